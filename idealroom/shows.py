"""A polynomial shown as a text."""


def is_below_nought(field, number):
    """Fractions alone can be: rests have no sign."""
    return field.prime == 0 and number[0] < 0


def number_shown(field, number):
    """The number without its sign."""
    if field.prime != 0:
        return str(number)
    if number[1] == 1:
        return str(abs(number[0]))
    return str(abs(number[0])) + "/" + str(number[1])


def power_shown(letter, power):
    if power == 1:
        return letter
    return letter + "^" + str(power)


def part_shown(ring, number, term):
    """A part without the sign of its number."""
    factors = [power_shown(letter, power) for letter, power in zip(ring.letters(), term) if power > 0]
    size = number_shown(ring.field, number)
    if size != "1" or factors == []:
        factors = [size] + factors
    return "*".join(factors)


def shown(ring, f):
    text = ""
    for term in ring.order.falling(list(f)):
        below = is_below_nought(ring.field, f[term])
        if text == "":
            text = "-" if below else ""
        else:
            text += " - " if below else " + "
        text += part_shown(ring, f[term], term)
    if text == "":
        return "0"
    return text
