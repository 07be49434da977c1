"""Whether polynomials come down to nothing by a row, told without fractions.

It is nothing that is left, or not, whatever number a polynomial is multiplied by: so rows of whole numbers will do.
"""

from idealroom.clearing import cleared, whole_row
from idealroom.dividing import Leads, Waiting
from idealroom.terms import left_over, meeting, product


def shifted(term, row):
    """A row whose keys are terms, times the term."""
    found = {}
    for part, number in row.items():
        found[product(term, part)] = number
    return found


class Lowering:
    """A row of polynomials, ready to bring others down."""

    def __init__(self, ring, row):
        self.ring = ring
        self.leads = Leads(ring, row)
        self.wholes = [whole_row(ring.field, f) for f in row]

    def brings_to_nothing(self, f):
        return self.row_to_nothing(whole_row(self.ring.field, f))

    def row_to_nothing(self, left):
        waiting = Waiting(self.ring.order, left)
        while left != {}:
            term = waiting.taken()
            if term in left:
                fit = self.leads.fitting(term)
                if fit is None:
                    return False
                taken = shifted(left_over(fit[1], term), self.wholes[fit[0]])
                waiting.put(taken)
                left = cleared(self.ring.field.prime, left, taken, term)
        return True

    def crossed_to_nothing(self, i, j, one, other):
        """Whether the crossed pair of the polynomials at i and j does, whose first terms are one and other."""
        met = meeting(one, other)
        row = shifted(left_over(one, met), self.wholes[i])
        taken = shifted(left_over(other, met), self.wholes[j])
        return self.row_to_nothing(cleared(self.ring.field.prime, row, taken, met))
