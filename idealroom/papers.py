"""Papers that tell why a polynomial is within a row or is not, made and looked at."""

from idealroom.completing import completed, mixed
from idealroom.crossing import is_base
from idealroom.dividing import Leads, divided
from idealroom.polys import plus, summed


def sum_up_to(ring, multiples, row, f):
    return len(multiples) == len(row) and summed(ring, multiples, row) == f


def all_sum_up(ring, lists, row, polys):
    """Whether there is a list of multiples of the row for each polynomial, that sums up to it."""
    if len(lists) != len(polys):
        return False
    return all([sum_up_to(ring, multiples, row, f) for multiples, f in zip(lists, polys)])


def is_rest(ring, base, rest):
    """Whether it is not nought, and no first term of the base goes into a term of it."""
    leads = Leads(ring, base)
    return rest != {} and all([leads.fitting(term) is None for term in rest])


def is_parted(ring, base, quotients, rest, poly):
    return len(quotients) == len(base) and plus(ring, summed(ring, quotients, base), rest) == poly


def holds_without(ring, told, poly, paper):
    base = paper[1]
    if {} in base or not is_rest(ring, base, paper[5]):
        return False
    if not all_sum_up(ring, paper[2], told, base) or not all_sum_up(ring, paper[3], base, told):
        return False
    return is_parted(ring, base, paper[4], paper[5], poly) and is_base(ring, base)


def holds(ring, told, poly, paper):
    if paper[0] == "within":
        return sum_up_to(ring, paper[1], told, poly)
    return holds_without(ring, told, poly, paper)


def paper_of(ring, told, box, poly):
    rows = completed(ring, told, box)
    base = [row[0] for row in rows]
    from_told = [row[1] for row in rows]
    parted = divided(ring, poly, base)
    if parted[1] == {}:
        return ("within", mixed(ring, parted[0], from_told, len(told)))
    to_told = [divided(ring, f, base)[0] for f in told]
    return ("without", base, from_told, to_told, parted[0], parted[1])
