"""Polynomials: dicts from terms to numbers, none of them nought."""

from idealroom.errors import NoLead, NoTerm
from idealroom.terms import product


def absorb(ring, total, f):
    """Adds f to total, which alone is changed and must be the caller's own."""
    nought = ring.field.nought()
    for term, number in f.items():
        if term in total:
            number = ring.field.plus(total[term], number)
        if number == nought:
            total.pop(term)
        else:
            total[term] = number


def poly_of(ring, parts):
    total = {}
    for top, bottom, term in parts:
        if len(term) != ring.many or any([power < 0 for power in term]):
            raise NoTerm("a term has a power from 0 on for each unknown")
        number = ring.field.made(top, bottom)
        if number != ring.field.nought():
            absorb(ring, total, {tuple(term): number})
    return total


def scaled(ring, number, term, f):
    if number == ring.field.nought():
        return {}
    found = {}
    for part, factor in f.items():
        found[product(term, part)] = ring.field.times(number, factor)
    return found


def negated(ring, f):
    found = {}
    for term, number in f.items():
        found[term] = ring.field.against(number)
    return found


def plus(ring, f, g):
    total = dict(f)
    absorb(ring, total, g)
    return total


def minus(ring, f, g):
    return plus(ring, f, negated(ring, g))


def times(ring, f, g):
    total = {}
    for term, number in f.items():
        absorb(ring, total, scaled(ring, number, term, g))
    return total


def first_term(ring, f):
    if f == {}:
        raise NoLead("nought has no first term")
    return ring.order.first_of(list(f))


def first_number(ring, f):
    return f[first_term(ring, f)]


def monic(ring, f):
    if f == {}:
        return {}
    return scaled(ring, ring.field.turned(first_number(ring, f)), ring.unit(), f)


def greatest_power(f, at):
    return max([term[at] for term in f], default=0)


def reach(ring, f):
    return tuple([greatest_power(f, at) for at in range(ring.many)])


def powers_of(field, number, greatest):
    """The powers of a number from 0 to the greatest."""
    powers = [field.one()]
    while len(powers) <= greatest:
        powers.append(field.times(powers[-1], number))
    return powers


def value(ring, f, point):
    field = ring.field
    tables = [powers_of(field, number, greatest) for number, greatest in zip(point, reach(ring, f))]
    total = field.nought()
    for term, number in f.items():
        for powers, power in zip(tables, term):
            number = field.times(number, powers[power])
        total = field.plus(total, number)
    return total


def summed(ring, multiples, row):
    total = {}
    for multiple, f in zip(multiples, row):
        absorb(ring, total, times(ring, multiple, f))
    return total
