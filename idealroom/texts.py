"""A text read as a polynomial."""

from idealroom.errors import NoText
from idealroom.polys import absorb, times
from idealroom.terms import alone

MOST_SIGNS = 300
MOST_DEPTH = 8
NUMBER_FIGURES = 30
POWER_FIGURES = 2
FIGURES = "0123456789"
# It stands for the text's end, as no blank is left in a text when it is walked along.
END = " "


class Reader:
    """Walks along a text and tells how it is built, without reckoning: a text is refused for a number in it only
    when all of it is known to be well written.

    A sum is told as a list of tuples (sign, factors), a factor as ("number", top, bottom), ("power", place, power)
    or ("sum", the sum, None).
    """

    def __init__(self, unknowns, text):
        self.unknowns = unknowns
        self.text = text.replace(" ", "")
        self.at = 0
        self.depth = 0

    def sign(self):
        if self.at < len(self.text):
            return self.text[self.at]
        return END

    def passes(self, sign):
        """Whether the sign stands here; where it does, it is passed by."""
        if self.sign() != sign:
            return False
        self.at += 1
        return True

    def whole_sum(self):
        found = self.parts()
        if self.sign() != END:
            raise NoText("signs are left behind the sum")
        return found

    def parts(self):
        turn = -1 if self.passes("-") else 1
        found = [(turn, self.factors())]
        while self.sign() == "+" or self.sign() == "-":
            turn = 1 if self.sign() == "+" else -1
            self.at += 1
            found.append((turn, self.factors()))
        return found

    def factors(self):
        found = [self.factor()]
        while self.passes("*"):
            found.append(self.factor())
        return found

    def factor(self):
        if self.sign() in FIGURES:
            return self.number()
        if self.sign() in self.unknowns:
            return self.power()
        if self.passes("("):
            return self.bracket()
        raise NoText("no factor stands where one is due")

    def number(self):
        top = self.figures(NUMBER_FIGURES)
        bottom = 1
        if self.passes("/"):
            bottom = self.figures(NUMBER_FIGURES)
        return ("number", top, bottom)

    def power(self):
        place = self.unknowns.find(self.sign())
        self.at += 1
        power = 1
        if self.passes("^"):
            power = self.figures(POWER_FIGURES)
        return ("power", place, power)

    def bracket(self):
        self.depth += 1
        if self.depth > MOST_DEPTH:
            raise NoText("brackets stand too deep in one another")
        found = self.parts()
        if not self.passes(")"):
            raise NoText("a bracket is not closed")
        self.depth -= 1
        return ("sum", found, None)

    def figures(self, most):
        start = self.at
        while self.sign() in FIGURES:
            self.at += 1
        if self.at == start or self.at - start > most:
            raise NoText("too few or too many figures")
        return int(self.text[start:self.at])


def sum_of(ring, parts):
    total = {}
    for turn, factors in parts:
        found = ring.constant(ring.field.made(turn))
        for factor in factors:
            found = times(ring, found, factor_of(ring, factor))
        absorb(ring, total, found)
    return total


def factor_of(ring, factor):
    if factor[0] == "number":
        return ring.constant(ring.field.made(factor[1], factor[2]))
    if factor[0] == "power":
        return {alone(ring.many, factor[1], factor[2]): ring.field.one()}
    return sum_of(ring, factor[1])


def read(ring, text):
    if len(text) > MOST_SIGNS:
        raise NoText("the text is too long")
    return sum_of(ring, Reader(ring.letters(), text).whole_sum())
