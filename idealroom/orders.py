"""Orders of terms: by letters, by degrees, by tails, by weights."""

from idealroom.errors import NoOrder, NoTerm
from idealroom.terms import degree


class Order:
    """The order by letters; the orders under it rank otherwise and do all else by that rank."""

    def rank(self, term):
        return tuple(term)

    def goes_before(self, one, other):
        return self.rank(one) > self.rank(other)

    def falling(self, terms):
        return sorted(terms, key=self.rank, reverse=True)

    def first_of(self, terms):
        if len(terms) == 0:
            raise NoTerm("no term is there to go first")
        return max(terms, key=self.rank)

    def takes_out(self, k):
        return True

    def fits(self, many):
        return True


class Degrees(Order):
    """The greater degree goes first, then as by letters."""

    def rank(self, term):
        return (degree(term),) + tuple(term)

    def takes_out(self, k):
        return False


class Tails(Order):
    """The greater degree goes first, then the lesser power of the last unknown."""

    def rank(self, term):
        return (degree(term),) + tuple([-power for power in reversed(term)])

    def takes_out(self, k):
        return False


class Weights(Order):
    """The greater sum of weighed powers goes first, then as by letters."""

    def __init__(self, weights):
        if any([weight < 0 for weight in weights]):
            raise NoOrder("a weight is below 0")
        # A tuple of its own: the list that was handed in may be changed later.
        self.weights = tuple(weights)

    def rank(self, term):
        weighed = sum([power * weight for power, weight in zip(term, self.weights)])
        return (weighed,) + tuple(term)

    def takes_out(self, k):
        return all([weight == 0 for weight in self.weights[k:]])

    def fits(self, many):
        return len(self.weights) == many
