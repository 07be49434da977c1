"""Whether a polynomial is a sum of multiples of a row, and whether two rows have the same sums."""

from idealroom.completing import completed, least_base, mixed
from idealroom.dividing import brought_down, divided


def looked_up(ring, told, box, poly):
    rows = completed(ring, told, box)
    parted = divided(ring, poly, [row[0] for row in rows])
    return (mixed(ring, parted[0], [row[1] for row in rows], len(told)), parted[1])


def is_within(ring, told, box, poly):
    return brought_down(ring, poly, least_base(ring, told, box)) == {}


def same_sums(ring, ones, others, box):
    return least_base(ring, ones, box) == least_base(ring, others, box)
