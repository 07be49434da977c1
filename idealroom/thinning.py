"""The least base of a row that is a base."""

from idealroom.crossing import is_base, leads_by_place
from idealroom.dividing import brought_down
from idealroom.errors import NoBase
from idealroom.polys import first_term, monic
from idealroom.terms import goes_into


def lean_places(ring, row):
    """The places of those into whose first term no other's goes; of those with the same first term the earliest."""
    leads = leads_by_place(ring, row)
    found = []
    for at in leads:
        others = [other for other in leads if other != at and goes_into(leads[other], leads[at])]
        if all([leads[other] == leads[at] and other > at for other in others]):
            found.append(at)
    return found


def least_form(ring, f, lean):
    """The polynomial made monic, all behind its first term brought down by the lean row."""
    lead = first_term(ring, f)
    tail = monic(ring, f)
    tail.pop(lead)
    found = brought_down(ring, tail, lean)
    found[lead] = ring.field.one()
    return found


def least_of(ring, row):
    """The least base of a row that is known to be a base."""
    lean = [row[at] for at in lean_places(ring, row)]
    by_lead = {}
    for f in lean:
        by_lead[first_term(ring, f)] = least_form(ring, f, lean)
    return [by_lead[lead] for lead in ring.order.falling(list(by_lead))]


def thinned(ring, row):
    if not is_base(ring, row):
        raise NoBase("some crossed pair does not come down to nothing")
    return least_of(ring, row)
