"""Polynomials that are nought at all answers of a row, and rows with the same answers."""

from idealroom.completing import least_base
from idealroom.orders import Degrees
from idealroom.polys import minus, times
from idealroom.rings import Ring
from idealroom.rooms import check_box


def widened(ring):
    """The ring with one unknown more; of four unknowns there is none."""
    return Ring(ring.many + 1, ring.field, Degrees())


def lifted(f):
    """The polynomial in the widened ring: the new unknown has the power 0."""
    found = {}
    for term, number in f.items():
        found[term + (0,)] = number
    return found


def nought_at_all(ring, told, box, poly):
    wide = widened(ring)
    one = wide.constant(wide.field.one())
    further = minus(wide, one, times(wide, wide.unknown(ring.many), lifted(poly)))
    row = [lifted(f) for f in told] + [further]
    return least_base(wide, row, box) == [one]


def same_answers(ring, ones, others, box):
    # Where both rows are empty nothing is asked, and the refusals are due all the same.
    check_box(widened(ring), box)
    answers = [nought_at_all(ring, ones, box, f) for f in others]
    # All are asked ahead of any answer: whichever is refused, the whole is.
    answers.extend([nought_at_all(ring, others, box, f) for f in ones])
    return all(answers)
