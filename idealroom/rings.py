"""Rings: how many unknowns there are, their field and the order of their terms."""

from idealroom.errors import NoRing
from idealroom.terms import alone

LETTERS = "xyzt"


class Ring:
    """A ring of one to four unknowns; its polynomials are dicts from terms to numbers."""

    def __init__(self, many, field, order):
        if many < 1 or many > len(LETTERS) or not order.fits(many):
            raise NoRing("a ring has 1 to 4 unknowns, and an order for so many")
        self.many = many
        self.field = field
        self.order = order

    def letters(self):
        return LETTERS[:self.many]

    def unit(self):
        """The term 1."""
        return (0,) * self.many

    def unknown(self, at):
        return {alone(self.many, at, 1): self.field.one()}

    def constant(self, number):
        if number == self.field.nought():
            return {}
        return {self.unit(): number}
