"""The terms that no first term of a base goes into, and how many answers a row has."""

from idealroom.completing import least_base
from idealroom.errors import Endless
from idealroom.polys import first_term
from idealroom.terms import alone, degree, goes_into, product


def is_power_alone(term, at):
    """Whether no other unknown than the one at the place has a power above 0."""
    return degree(term) == term[at]


def check_not_endless(ring, leads):
    for at in range(ring.many):
        if not any([is_power_alone(lead, at) for lead in leads]):
            raise Endless("no first term is a power of some unknown alone")


def is_outside(leads, term):
    """Whether no first term goes into the term."""
    return not any([goes_into(lead, term) for lead in leads])


def outside(leads, terms):
    return [term for term in terms if is_outside(leads, term)]


def steps_from(ring, terms):
    """The terms times each unknown, each of them once."""
    found = {}
    for term in terms:
        for at in range(ring.many):
            found[product(term, alone(ring.many, at, 1))] = True
    return list(found)


def corner(ring, base):
    leads = [first_term(ring, f) for f in base if f != {}]
    check_not_endless(ring, leads)
    # Where a term is in the corner, so is all that goes into it: step by step from 1 on each of them is met.
    found = []
    edge = outside(leads, [ring.unit()])
    while edge != []:
        found.extend(edge)
        edge = outside(leads, steps_from(ring, edge))
    return list(reversed(ring.order.falling(found)))


def how_many(ring, told, box):
    return len(corner(ring, least_base(ring, told, box)))
