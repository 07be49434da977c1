"""Unknowns taken out of a row's sums of multiples."""

from idealroom.completing import least_base
from idealroom.errors import NoOrder
from idealroom.polys import reach
from idealroom.rooms import check_box


def taken_out(ring, told, box, k):
    check_box(ring, box)
    if k < 1 or k >= ring.many or not ring.order.takes_out(k):
        raise NoOrder("the order does not take so many unknowns out")
    return [f for f in least_base(ring, told, box) if sum(reach(ring, f)[:k]) == 0]
