"""Tables of the unknowns over a base's corner, and the least dependence of a polynomial."""

from idealroom.clearing import Stairs, whole_row
from idealroom.corners import corner
from idealroom.dividing import brought_down
from idealroom.polys import scaled, times


def table(ring, base, at):
    terms = corner(ring, base)
    rows = []
    for term in terms:
        rest = brought_down(ring, scaled(ring, ring.field.one(), term, ring.unknown(at)), base)
        rows.append([rest.get(other, ring.field.nought()) for other in terms])
    return rows


def marked_row(ring, terms, f, mark):
    """The numbers of f at the terms as a row, with one at the mark behind them."""
    numbers = {len(terms) + mark: ring.field.one()}
    for place, term in enumerate(terms):
        if term in f:
            numbers[place] = f[term]
    return whole_row(ring.field, numbers)


def dependence_of(field, row, width, last):
    """The numbers at the marks of a row that has nothing ahead of them, divided so that the last one is one."""
    return [field.made(row.get(width + mark, 0), row[width + last]) for mark in range(last + 1)]


def least_dependence(ring, base, poly):
    terms = corner(ring, base)
    width = len(terms)
    stairs = Stairs(ring.field.prime, width)
    factor = brought_down(ring, poly, base)
    power = brought_down(ring, ring.constant(ring.field.one()), base)
    last = 0
    row = marked_row(ring, terms, power, last)
    # The marks carry along which powers each row is a sum of.
    while stairs.gain(row):
        power = brought_down(ring, times(ring, factor, power), base)
        last += 1
        row = marked_row(ring, terms, power, last)
    return dependence_of(ring.field, stairs.lowered(row, 0), width, last)
