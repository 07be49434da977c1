"""Division of a polynomial by a row of polynomials."""

from idealroom.polys import absorb, first_term, scaled
from idealroom.terms import goes_into, left_over


class Waiting:
    """Terms that wait until it is their turn: the one that goes first is taken first, each but once.

    They are kept in their order, so that not all of them must be compared anew for each that is taken.
    """

    def __init__(self, order, terms):
        self.order = order
        self.known = {}
        self.queue = []
        self.put(terms)

    def put(self, terms):
        for term in terms:
            if term not in self.known:
                self.known[term] = True
                rank = self.order.rank(term)
                self.queue.insert(self.place_of(rank), (rank, term))

    def place_of(self, rank):
        low = 0
        high = len(self.queue)
        while low < high:
            middle = (low + high) // 2
            if self.queue[middle][0] < rank:
                low = middle + 1
            else:
                high = middle
        return low

    def is_empty(self):
        return self.queue == []

    def taken(self):
        return self.queue.pop()[1]


class Leads:
    """The first terms of a row, with their places."""

    def __init__(self, ring, row):
        self.pairs = [(at, first_term(ring, f)) for at, f in enumerate(row) if f != {}]

    def fitting(self, term):
        """The earliest (place, first term) that goes into the term, or None."""
        for pair in self.pairs:
            if goes_into(pair[1], term):
                return pair
        return None


def divided(ring, f, row):
    leads = Leads(ring, row)
    quotients = [{} for divisor in row]
    rest = {}
    left = dict(f)
    waiting = Waiting(ring.order, f)
    while not waiting.is_empty():
        term = waiting.taken()
        if term in left:
            fit = leads.fitting(term)
            if fit is None:
                rest[term] = left.pop(term)
            else:
                divisor = row[fit[0]]
                number = ring.field.over(left[term], divisor[fit[1]])
                over = left_over(fit[1], term)
                quotients[fit[0]][over] = number
                taken = scaled(ring, ring.field.against(number), over, divisor)
                waiting.put(taken)
                absorb(ring, left, taken)
    return (quotients, rest)


def brought_down(ring, f, row):
    return divided(ring, f, row)[1]
