"""What the tests share: drawn polynomials, plain reckoning to compare with, and looks at what is told.

The reckoning here is a second one, by other means: polynomials are dicts from terms to Fraction (or to whole numbers,
taken by their rests), and noughts may stand in them until they are tightened.
"""

import copy
import itertools
from fractions import Fraction

from idealroom.fields import Fractions, Rests
from idealroom.orders import Degrees, Order, Tails, Weights
from idealroom.rings import Ring


def fields():
    return [Fractions(), Rests(2), Rests(3), Rests(7), Rests(9973)]


def orders(many):
    return [Order(), Degrees(), Tails(), Weights([1] + [0] * (many - 1)), Weights([1, 2, 0, 3][:many])]


def rings(manys=(1, 2, 3, 4)):
    return [Ring(many, field, order) for many in manys for field in fields() for order in orders(many)]


def terms_up_to(bounds):
    return list(itertools.product(*[range(bound + 1) for bound in bounds]))


def rank(order, term):
    """Point 6 once more."""
    if isinstance(order, Degrees):
        return [sum(term)] + list(term)
    if isinstance(order, Tails):
        return [sum(term)] + [-power for power in term[::-1]]
    if isinstance(order, Weights):
        return [sum(a * b for a, b in zip(term, order.weights))] + list(term)
    return list(term)


def rising(ring, terms):
    return sorted(terms, key=lambda term: rank(ring.order, term))


def lead(ring, f):
    return rising(ring, f)[-1]


def divides(one, other):
    return all(a <= b for a, b in zip(one, other))


def joined(one, other):
    return tuple(max(a, b) for a, b in zip(one, other))


def less(one, other):
    return tuple(a - b for a, b in zip(one, other))


def more(one, other):
    return tuple(a + b for a, b in zip(one, other))


# Numbers

def tight_number(field, number):
    """A Fraction or a whole number as a number of the field."""
    number = Fraction(number)
    if field.prime == 0:
        return (number.numerator, number.denominator)
    return number.numerator * pow(number.denominator, -1, field.prime) % field.prime


def loose_number(number):
    return Fraction(*number) if isinstance(number, tuple) else number


def inverse(field, number):
    return 1 / number if field.prime == 0 else pow(number, -1, field.prime)


# Polynomials

def tight(ring, f):
    """The polynomial of the ring with these Fractions or whole numbers at its terms."""
    found = {term: tight_number(ring.field, number) for term, number in f.items()}
    return {term: number for term, number in found.items() if number != tight_number(ring.field, 0)}


def loose(f):
    return {term: loose_number(number) for term, number in f.items()}


def added(ring, f, g, number=1):
    """f and number times g."""
    total = loose(f)
    for term, other in loose(g).items():
        total[term] = total.get(term, 0) + number * other
    return tight(ring, total)


def multiplied(ring, f, g):
    total = {}
    for one, number in loose(f).items():
        for other, further in loose(g).items():
            term = more(one, other)
            total[term] = total.get(term, 0) + number * further
    return tight(ring, total)


def summed_up(ring, multiples, row):
    if len(multiples) != len(row):
        raise AssertionError("not as many multiples as polynomials")
    total = {}
    for multiple, f in zip(multiples, row):
        total = added(ring, total, multiplied(ring, multiple, f))
    return total


def made_monic(ring, f):
    if not f:
        return {}
    turned = inverse(ring.field, loose(f)[lead(ring, f)])
    return tight(ring, {term: number * turned for term, number in loose(f).items()})


def whole_poly(ring, f):
    """A polynomial told as a dict from terms to whole numbers or Fractions, or as a number alone."""
    if not isinstance(f, dict):
        f = {(0,) * ring.many: f}
    return tight(ring, f)


def drawn_number(rng, field, greatest=5):
    top = rng.choice([number for number in range(-greatest, greatest + 1) if number != 0])
    bottom = rng.choice([1, 1, 1, 2, 3, 4]) if field.prime == 0 else 1
    return tight_number(field, Fraction(top, bottom))


def drawn(rng, ring, most_terms=4, bounds=None):
    """A polynomial with at most so many terms; now and then nought."""
    bounds = bounds or (2,) * ring.many
    found = {}
    for _ in range(rng.randint(0 if rng.random() < 0.1 else 1, most_terms)):
        term = tuple(rng.randint(0, bound) for bound in bounds)
        number = drawn_number(rng, ring.field)
        if number != tight_number(ring.field, 0):
            found[term] = number
    return found


def drawn_row(rng, ring, length, most_terms=3, bounds=None):
    return [drawn(rng, ring, most_terms, bounds) for _ in range(length)]


# Looks at what is told

def assert_poly(test, ring, f):
    """Point 9: a dict from terms to numbers of the field, none of them nought."""
    test.assertIs(type(f), dict)
    for term, number in f.items():
        test.assertIs(type(term), tuple)
        test.assertEqual(len(term), ring.many)
        for power in term:
            test.assertIs(type(power), int)
            test.assertGreaterEqual(power, 0)
        assert_number(test, ring.field, number)
        test.assertNotEqual(number, tight_number(ring.field, 0))


def assert_number(test, field, number):
    if field.prime == 0:
        test.assertIs(type(number), tuple)
        test.assertEqual([type(part) for part in number], [int, int])
        fraction = Fraction(number[0], number[1])
        test.assertEqual(number, (fraction.numerator, fraction.denominator))
    else:
        test.assertIs(type(number), int)
        test.assertIn(number, range(field.prime))


def assert_polys(test, ring, row):
    test.assertIs(type(row), list)
    for f in row:
        assert_poly(test, ring, f)


def containers(thing):
    """Every list and dict in a thing, itself too."""
    found = []
    if isinstance(thing, (list, dict)):
        found.append(thing)
    inner = thing.values() if isinstance(thing, dict) else thing
    if isinstance(thing, (list, dict, tuple)):
        for part in inner:
            found.extend(containers(part))
    return found


def spoil(thing):
    """Changes every list and dict in a thing."""
    for container in containers(thing):
        if isinstance(container, dict):
            container.clear()
            container["spoilt"] = True
        else:
            container.insert(0, "spoilt")
            container.append("spoilt")


def copied(given):
    return [copy.deepcopy(thing) if isinstance(thing, (list, dict, tuple)) else thing for thing in given]


def told_as_own(test, function, *given):
    """Calls the function and looks whether point 2 holds for what was handed in and what is told; tells it."""
    handed = copied(given)
    told = function(*handed)
    kept = copy.deepcopy(told)
    test.assertEqual(handed, list(given), "what was handed in is changed")
    own = [id(container) for container in containers(told)]
    test.assertEqual(len(own), len(set(own)), "a dict or list is told twice")
    test.assertEqual(set(own) & {id(container) for container in containers(handed)}, set(), "told as handed in")
    spoil(handed)
    test.assertEqual(told, kept, "what was told hangs on what was handed in")
    again = copied(given)
    second = function(*again)
    test.assertEqual(second, kept, "the same is not told again")
    spoil(second)
    test.assertEqual(told, kept, "what was told hangs on what is told later")
    test.assertEqual(again, list(given), "what was handed in hangs on what is told")
    test.assertEqual(function(*again), kept, "what was told is kept and told again")
    return kept


def refused_as_it_was(test, error, function, *given):
    """The function refuses with just this error, and changes nothing that was handed in."""
    handed = copied(given)
    with test.assertRaises(error) as caught:
        function(*handed)
    test.assertIs(type(caught.exception), error)
    test.assertEqual(handed, list(given))
