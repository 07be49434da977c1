"""What the tests share: drawn polynomials, plain reckoning to compare with, and looks at what is told.

The reckoning here is a second one, by other means: polynomials are dicts from terms to Fraction (or to whole numbers,
taken by their rests), and noughts may stand in them until they are tightened.
"""

import copy
import itertools
import random
from fractions import Fraction

from idealroom.fields import Fractions, Rests
from idealroom.orders import Degrees, Order, Tails, Weights
from idealroom.rings import Ring
from idealroom.texts import read


def fields():
    return [Fractions(), Rests(2), Rests(3), Rests(7), Rests(9973)]


def orders(many):
    return [Order(), Degrees(), Tails(), Weights([1] + [0] * (many - 1)), Weights([1, 2, 0, 3][:many])]


def rings(manys=(1, 2, 3, 4)):
    return [Ring(many, field, order) for many in manys for field in fields() for order in orders(many)]


def terms_up_to(bounds):
    return list(itertools.product(*[range(bound + 1) for bound in bounds]))


def rank(order, term):
    """Point 6 once more."""
    if isinstance(order, Degrees):
        return [sum(term)] + list(term)
    if isinstance(order, Tails):
        return [sum(term)] + [-power for power in term[::-1]]
    if isinstance(order, Weights):
        return [sum(a * b for a, b in zip(term, order.weights))] + list(term)
    return list(term)


def rising(ring, terms):
    return sorted(terms, key=lambda term: rank(ring.order, term))


def lead(ring, f):
    return rising(ring, f)[-1]


def divides(one, other):
    return all(a <= b for a, b in zip(one, other))


def joined(one, other):
    return tuple(max(a, b) for a, b in zip(one, other))


def less(one, other):
    return tuple(a - b for a, b in zip(one, other))


def more(one, other):
    return tuple(a + b for a, b in zip(one, other))


# Numbers

def tight_number(field, number):
    """A Fraction or a whole number as a number of the field."""
    number = Fraction(number)
    if field.prime == 0:
        return (number.numerator, number.denominator)
    return number.numerator * pow(number.denominator, -1, field.prime) % field.prime


def loose_number(number):
    return Fraction(*number) if isinstance(number, tuple) else number


def inverse(field, number):
    return 1 / number if field.prime == 0 else pow(number, -1, field.prime)


# Polynomials

def tight(ring, f):
    """The polynomial of the ring with these Fractions or whole numbers at its terms."""
    found = {term: tight_number(ring.field, number) for term, number in f.items()}
    return {term: number for term, number in found.items() if number != tight_number(ring.field, 0)}


def loose(f):
    return {term: loose_number(number) for term, number in f.items()}


def added(ring, f, g, number=1):
    """f and number times g."""
    total = loose(f)
    for term, other in loose(g).items():
        total[term] = total.get(term, 0) + number * other
    return tight(ring, total)


def multiplied(ring, f, g):
    total = {}
    for one, number in loose(f).items():
        for other, further in loose(g).items():
            term = more(one, other)
            total[term] = total.get(term, 0) + number * further
    return tight(ring, total)


def summed_up(ring, multiples, row):
    if len(multiples) != len(row):
        raise AssertionError("not as many multiples as polynomials")
    total = {}
    for multiple, f in zip(multiples, row):
        total = added(ring, total, multiplied(ring, multiple, f))
    return total


def made_monic(ring, f):
    if not f:
        return {}
    turned = inverse(ring.field, loose(f)[lead(ring, f)])
    return tight(ring, {term: number * turned for term, number in loose(f).items()})


def whole_poly(ring, f):
    """A polynomial told as a dict from terms to whole numbers or Fractions, or as a number alone."""
    if not isinstance(f, dict):
        f = {(0,) * ring.many: f}
    return tight(ring, f)


def drawn_number(rng, field, greatest=5):
    top = rng.choice([number for number in range(-greatest, greatest + 1) if number != 0])
    bottom = rng.choice([1, 1, 1, 2, 3, 4]) if field.prime == 0 else 1
    return tight_number(field, Fraction(top, bottom))


def drawn(rng, ring, most_terms=4, bounds=None):
    """A polynomial with at most so many terms; now and then nought."""
    bounds = bounds or (2,) * ring.many
    found = {}
    for _ in range(rng.randint(0 if rng.random() < 0.1 else 1, most_terms)):
        term = tuple(rng.randint(0, bound) for bound in bounds)
        number = drawn_number(rng, ring.field)
        if number != tight_number(ring.field, 0):
            found[term] = number
    return found


def drawn_row(rng, ring, length, most_terms=3, bounds=None):
    return [drawn(rng, ring, most_terms, bounds) for _ in range(length)]


# Division, bases and rooms, step by step as the points tell them

def divided_plainly(ring, f, row):
    """Point 14."""
    left, rest, quotients = loose(f), {}, [{} for _ in row]
    while left:
        term = lead(ring, left)
        fits = [at for at, g in enumerate(row) if g and divides(lead(ring, g), term)]
        if not fits:
            rest[term] = left.pop(term)
            continue
        g = loose(row[fits[0]])
        over = less(term, lead(ring, g))
        number = left[term] * inverse(ring.field, g[lead(ring, g)])
        quotients[fits[0]][over] = quotients[fits[0]].get(over, 0) + number
        left = loose(added(ring, tight(ring, left), multiplied(ring, tight(ring, {over: 1}), row[fits[0]]), -number))
    return [tight(ring, quotient) for quotient in quotients], tight(ring, rest)


def rest_of(ring, f, row):
    return divided_plainly(ring, f, row)[1]


def crossed_plainly(ring, f, g):
    one, other = lead(ring, f), lead(ring, g)
    met = joined(one, other)
    f, g = made_monic(ring, f), made_monic(ring, g)
    return added(ring, multiplied(ring, tight(ring, {less(met, one): 1}), f),
                 multiplied(ring, tight(ring, {less(met, other): 1}), g), -1)


def is_base_plainly(ring, row):
    """Point 18: all crossed pairs, none let by."""
    row = [f for f in row if f]
    return not any(rest_of(ring, crossed_plainly(ring, f, g), row) for f, g in itertools.combinations(row, 2))


def any_base(ring, row):
    """A base of the row's sums of multiples, far from the least: the row and what its pairs leave over."""
    base = [made_monic(ring, f) for f in row if f]
    due = list(itertools.combinations(range(len(base)), 2))
    while due:
        i, j = due.pop(0)
        rest = rest_of(ring, crossed_plainly(ring, base[i], base[j]), base)
        if rest:
            due.extend((at, len(base)) for at in range(len(base)))
            base.append(made_monic(ring, rest))
    return base


def thinned_plainly(ring, base):
    """The least base of a base: what another one's first term goes into is left out, and the others brought down."""
    lean = [made_monic(ring, f) for f in base if f]
    at = 0
    while at < len(lean):
        others = lean[:at] + lean[at + 1:]
        if any(divides(lead(ring, g), lead(ring, lean[at])) for g in others):
            lean = others
        else:
            at += 1
    least = [made_monic(ring, rest_of(ring, f, lean[:at] + lean[at + 1:])) for at, f in enumerate(lean)]
    return sorted(least, key=lambda f: rank(ring.order, lead(ring, f)), reverse=True)


def least_base_plainly(ring, row):
    return thinned_plainly(ring, any_base(ring, row))


def in_box(f, box):
    return all(power <= bound for term in f for power, bound in zip(term, box))


def shifts_in_box(ring, told, box):
    """All tuples (place, term) such that the term times the polynomial there is in the box."""
    return [(at, term) for at, f in enumerate(told) if f for term in terms_up_to(box)
            if in_box({more(term, part): 1 for part in f}, box)]


def room_plainly(ring, told, box):
    """The polynomials of point 21: the shifts, each written as numbers at the box's terms, cleared column by column."""
    terms = rising(ring, terms_up_to(box))[::-1]
    rows = []
    for at, over in shifts_in_box(ring, told, box):
        shift = loose(multiplied(ring, tight(ring, {over: 1}), told[at]))
        rows.append([shift.get(term, 0) for term in terms])
    prime, done = ring.field.prime, 0
    for column in range(len(terms)):
        found = [at for at in range(done, len(rows)) if rows[at][column] != 0]
        if not found:
            continue
        rows[done], rows[found[0]] = rows[found[0]], rows[done]
        turned = inverse(ring.field, rows[done][column])
        rows[done] = [number * turned % prime if prime else number * turned for number in rows[done]]
        for at in range(len(rows)):
            if at != done and rows[at][column] != 0:
                number = rows[at][column]
                rows[at] = [a - number * b for a, b in zip(rows[at], rows[done])]
                if prime:
                    rows[at] = [a % prime for a in rows[at]]
        done += 1
    return [tight(ring, dict(zip(terms, row))) for row in rows[:done]]


def bare_plainly(ring, told, box):
    polys = room_plainly(ring, told, box)
    return [f for f in polys if not any(g != f and divides(lead(ring, g), lead(ring, f)) for g in polys)]


def is_closed_plainly(ring, told, box):
    """Point 23's own words: the room's first terms go into those of all sums, which a base's first terms tell."""
    polys = room_plainly(ring, told, box)
    return all(any(divides(lead(ring, g), lead(ring, f)) for g in polys) for f in any_base(ring, told))


def texts(ring, *written):
    return [read(ring, text) for text in written]


def small_box(rng, many):
    return [rng.randint(1, {1: 6, 2: 4, 3: 2, 4: 1}[many]) for _ in range(many)]


def drawn_cases(seed, manys=(1, 2, 3), most=3):
    """Tuples (ring, told, box), over all rings; the told ones are not always in the box."""
    rng = random.Random(seed)
    for ring in rings(manys):
        box = small_box(rng, ring.many)
        told = drawn_row(rng, ring, rng.randint(0, most), 3, [min(2, bound + 1) for bound in box])
        yield ring, told, box


def closed_cases(seed, manys=(1, 2, 3), most=3):
    """Those of the drawn cases that are closed, with their least bases; the others in a greater box, if it helps."""
    for ring, told, box in drawn_cases(seed, manys, most):
        for greater in (box, [{1: 9, 2: 5, 3: 3, 4: 2}[ring.many]] * ring.many):
            if is_closed_plainly(ring, told, greater):
                yield ring, told, greater, least_base_plainly(ring, told)
                break


# Looks at what is told

def assert_poly(test, ring, f):
    """Point 9: a dict from terms to numbers of the field, none of them nought."""
    test.assertIs(type(f), dict)
    for term, number in f.items():
        test.assertIs(type(term), tuple)
        test.assertEqual(len(term), ring.many)
        for power in term:
            test.assertIs(type(power), int)
            test.assertGreaterEqual(power, 0)
        assert_number(test, ring.field, number)
        test.assertNotEqual(number, tight_number(ring.field, 0))


def assert_number(test, field, number):
    if field.prime == 0:
        test.assertIs(type(number), tuple)
        test.assertEqual([type(part) for part in number], [int, int])
        fraction = Fraction(number[0], number[1])
        test.assertEqual(number, (fraction.numerator, fraction.denominator))
    else:
        test.assertIs(type(number), int)
        test.assertIn(number, range(field.prime))


def assert_polys(test, ring, row):
    test.assertIs(type(row), list)
    for f in row:
        assert_poly(test, ring, f)


def containers(thing):
    """Every list and dict in a thing, itself too."""
    found = []
    if isinstance(thing, (list, dict)):
        found.append(thing)
    inner = thing.values() if isinstance(thing, dict) else thing
    if isinstance(thing, (list, dict, tuple)):
        for part in inner:
            found.extend(containers(part))
    return found


def spoil(thing):
    """Changes every list and dict in a thing."""
    for container in containers(thing):
        if isinstance(container, dict):
            container.clear()
            container["spoilt"] = True
        else:
            container.insert(0, "spoilt")
            container.append("spoilt")


def copied(given):
    return [copy.deepcopy(thing) if isinstance(thing, (list, dict, tuple)) else thing for thing in given]


def told_as_own(test, function, *given):
    """Calls the function and looks whether point 2 holds for what was handed in and what is told; tells it."""
    handed = copied(given)
    told = function(*handed)
    kept = copy.deepcopy(told)
    test.assertEqual(handed, list(given), "what was handed in is changed")
    own = [id(container) for container in containers(told)]
    test.assertEqual(len(own), len(set(own)), "a dict or list is told twice")
    test.assertEqual(set(own) & {id(container) for container in containers(handed)}, set(), "told as handed in")
    spoil(handed)
    test.assertEqual(told, kept, "what was told hangs on what was handed in")
    again = copied(given)
    second = function(*again)
    test.assertEqual(second, kept, "the same is not told again")
    spoil(second)
    test.assertEqual(told, kept, "what was told hangs on what is told later")
    test.assertEqual(again, list(given), "what was handed in hangs on what is told")
    test.assertEqual(function(*again), kept, "what was told is kept and told again")
    return kept


def refused_as_it_was(test, error, function, *given):
    """The function refuses with just this error, and changes nothing that was handed in."""
    handed = copied(given)
    with test.assertRaises(error) as caught:
        function(*handed)
    test.assertIs(type(caught.exception), error)
    test.assertEqual(handed, list(given))
