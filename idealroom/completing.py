"""The least base of all sums of multiples of a row, where its room shows it."""

from idealroom.dividing import divided
from idealroom.errors import Open
from idealroom.polys import first_term, negated, summed
from idealroom.rooms import bare, room, shows_base
from idealroom.thinning import lean_places, least_of


def closed_bare(ring, told, box):
    """The bare rows of a row that is closed in the box."""
    lean = bare(ring, told, box)
    if not shows_base(ring, told, lean):
        raise Open("the room does not show the base")
    return lean


def mixed(ring, factors, lists, many):
    """The sum of the factors times lists of so many multiples each, one list for each factor."""
    found = []
    for at in range(many):
        found.append(summed(ring, factors, [multiples[at] for multiples in lists]))
    return found


def least_row(ring, lean, at, many):
    """The bare row at a place of the lean list, all behind its first term brought down, with its multiples."""
    polys = [row[0] for row in lean]
    lead = first_term(ring, polys[at])
    tail = dict(polys[at])
    number = tail.pop(lead)
    parted = divided(ring, tail, polys)
    factors = [negated(ring, quotient) for quotient in parted[0]]
    # Its own first term goes into no term behind it, so here no quotient is lost.
    factors[at] = ring.constant(ring.field.one())
    found = parted[1]
    found[lead] = number
    return (found, mixed(ring, factors, [row[1] for row in lean], many))


def completed(ring, told, box):
    closed_bare(ring, told, box)
    rows = room(ring, told, box)
    lean = [rows[at] for at in lean_places(ring, [row[0] for row in rows])]
    return [least_row(ring, lean, at, len(told)) for at in range(len(lean))]


def least_base(ring, told, box):
    return least_of(ring, closed_bare(ring, told, box))
