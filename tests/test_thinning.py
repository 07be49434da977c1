"""Point 19, and "idealroom/thinning.py" of the interface."""

import random
import unittest
from fractions import Fraction

from helper import (
    any_base, assert_polys, divides, drawn, drawn_number, drawn_row, is_base_plainly, lead, loose_number, made_monic,
    multiplied, rank, refused_as_it_was, rest_of, rings, texts, thinned_plainly, tight, told_as_own)
from idealroom.errors import NoBase
from idealroom.fields import Fractions, Rests
from idealroom.orders import Degrees, Order, Tails, Weights
from idealroom.rings import Ring
from idealroom.texts import read
from idealroom.thinning import thinned

LETTERS = Ring(2, Fractions(), Order())
DEGREES = Ring(2, Fractions(), Degrees())


def drawn_bases(seed, manys=(1, 2, 3)):
    """Tuples (ring, base): bases with more in them than is needed, multiplied by numbers, in any order."""
    rng = random.Random(seed)
    for ring in rings(manys):
        base = any_base(ring, drawn_row(rng, ring, rng.randint(1, 3), 2))
        if len(base) < 9:
            row = [{}]
            for f in base:
                number = drawn_number(rng, ring.field)
                if number == ring.field.nought():
                    number = ring.field.one()
                row.append(multiplied(ring, tight(ring, {(0,) * ring.many: loose_number(number)}), f))
                if rng.random() < 0.3:
                    row.append(multiplied(ring, drawn(rng, ring, 2), f))
            rng.shuffle(row)
            yield ring, row


class WrittenOnes(unittest.TestCase):

    def assert_thinned(self, ring, row, expected):
        with self.subTest(row=row):
            told = thinned(ring, texts(ring, *row))
            self.assertIs(type(told), list)
            self.assertEqual(told, texts(ring, *expected))

    def test_made_monic(self):
        self.assert_thinned(LETTERS, ["2*x+y"], ["x+1/2*y"])
        self.assert_thinned(DEGREES, ["2*x+3*y^2"], ["y^2+2/3*x"])
        self.assert_thinned(Ring(2, Rests(7), Order()), ["3*x+1"], ["x+5"])

    def test_the_first_terms_fall(self):
        self.assert_thinned(LETTERS, ["y^5", "x"], ["x", "y^5"])
        self.assert_thinned(LETTERS, ["x", "y^5"], ["x", "y^5"])
        self.assert_thinned(DEGREES, ["x", "y^5"], ["y^5", "x"])
        self.assert_thinned(Ring(3, Fractions(), Tails()), ["x*z", "y^2"], ["y^2", "x*z"])
        self.assert_thinned(Ring(3, Fractions(), Degrees()), ["y^2", "x*z"], ["x*z", "y^2"])
        self.assert_thinned(Ring(2, Fractions(), Weights([0, 1])), ["x^5", "y"], ["y", "x^5"])

    def test_what_another_first_term_goes_into_is_left_out(self):
        self.assert_thinned(LETTERS, ["x^2", "x", "x*y", "y^2"], ["x", "y^2"])
        self.assert_thinned(LETTERS, ["x+y", "x-y", "y"], ["x", "y"])
        self.assert_thinned(LETTERS, ["x+y", "x+y", "2*x+2*y"], ["x+y"])

    def test_the_terms_behind_are_brought_down(self):
        self.assert_thinned(LETTERS, ["x+y^3+y", "y^2-2"], ["x+3*y", "y^2-2"])
        self.assert_thinned(LETTERS, ["x*y+y^2", "y^2+y", "y"], ["y"])
        self.assert_thinned(LETTERS, ["x^2+y^2", "2*y-2"], ["x^2+1", "y-1"])
        self.assert_thinned(LETTERS, ["x^2+x+y", "x*y", "y^2"], ["x^2+x+y", "x*y", "y^2"])

    def test_noughts_and_empty_rows(self):
        for ring in rings():
            self.assertEqual(thinned(ring, []), [])
            self.assertEqual(thinned(ring, [{}]), [])
            self.assertEqual(thinned(ring, [{}, {}, {}]), [])
            self.assertEqual(thinned(ring, [{}, ring.unknown(0), {}]), [ring.unknown(0)])

    def test_a_number_alone_in_the_row(self):
        for ring in rings():
            one = ring.constant(ring.field.one())
            x = ring.unknown(0)
            self.assertEqual(thinned(ring, [one]), [one])
            self.assertEqual(thinned(ring, [ring.constant(ring.field.made(-1))]), [one])
            self.assertEqual(thinned(ring, [x, {}, one, x]), [one])
        self.assert_thinned(LETTERS, ["x^2+y", "-3/4", "x*y-x"], ["1"])
        self.assert_thinned(LETTERS, ["5", "7"], ["1"])

    def test_rows_that_are_no_base(self):
        for row in (["x+y", "x-y"], ["x*y-1", "y^2-1"], ["x", "x+1"], ["x^2", "x*y+y^2"], ["0", "x", "x+y"]):
            refused_as_it_was(self, NoBase, thinned, LETTERS, texts(LETTERS, *row))
        refused_as_it_was(self, NoBase, thinned, DEGREES, texts(DEGREES, "x-y^2", "y^3-1", "x*y-1"))

    def test_great_numbers(self):
        great = 10 ** 60 - 1
        f = tight(LETTERS, {(1, 0): great, (0, 2): Fraction(1, great - 1)})
        g = tight(LETTERS, {(0, 2): Fraction(2, great), (0, 0): 1})
        self.assertEqual(thinned(LETTERS, [f, g]), [
            tight(LETTERS, {(1, 0): 1, (0, 0): Fraction(-1, 2 * (great - 1))}),
            tight(LETTERS, {(0, 2): 1, (0, 0): Fraction(great, 2)})])


class Drawn(unittest.TestCase):

    def test_as_reckoned_plainly(self):
        for ring, row in drawn_bases(1):
            self.assertEqual(thinned(ring, row), thinned_plainly(ring, row))

    def test_each_sentence(self):
        for ring, row in drawn_bases(2):
            told = thinned(ring, row)
            assert_polys(self, ring, told)
            leads = [lead(ring, f) for f in told]
            ranks = [rank(ring.order, term) for term in leads]
            self.assertEqual(ranks, sorted(ranks, reverse=True))
            for at, f in enumerate(told):
                self.assertEqual(f, made_monic(ring, f))
                for term in f:
                    goes_in = [place for place, first in enumerate(leads) if divides(first, term)]
                    self.assertEqual(goes_in, [at] if term == leads[at] else [])
            for f in row:
                self.assertEqual(rest_of(ring, f, told), {})
            for f in told:
                self.assertEqual(rest_of(ring, f, row), {})

    def test_the_same_for_any_order_of_the_row_and_with_multiples_in_it(self):
        rng = random.Random(3)
        for ring, row in drawn_bases(4, (2,)):
            told = thinned(ring, row)
            for _ in range(3):
                mixed = row + [multiplied(ring, drawn(rng, ring, 2), rng.choice(row))] + [{}]
                rng.shuffle(mixed)
                self.assertEqual(thinned(ring, mixed), told)
            self.assertEqual(thinned(ring, told), told)

    def test_refused_just_where_it_is_no_base(self):
        rng = random.Random(5)
        for ring in rings((1, 2)):
            for _ in range(3):
                row = drawn_row(rng, ring, 3, 2)
                if is_base_plainly(ring, row):
                    self.assertEqual(thinned(ring, row), thinned_plainly(ring, row))
                else:
                    refused_as_it_was(self, NoBase, thinned, ring, row)


class WhatIsHandedInAndTold(unittest.TestCase):
    """Point 2."""

    def test_drawn_ones(self):
        for ring, row in drawn_bases(6, (1, 2)):
            told_as_own(self, thinned, ring, row)

    def test_where_what_is_told_equals_what_was_handed_in(self):
        for row in ([], ["x"], ["1"], ["x+y"], ["x", "y"], ["x^2+1", "y^2-3/2"]):
            row = texts(LETTERS, *row)
            told_as_own(self, thinned, LETTERS, row)

    def test_the_same_dict_at_several_places(self):
        f = read(LETTERS, "x+y")
        self.assertEqual(thinned(LETTERS, [f, f, f]), [read(LETTERS, "x+y")])
        self.assertEqual(f, read(LETTERS, "x+y"))

    def test_arguments_by_their_names(self):
        self.assertEqual(thinned(ring=LETTERS, row=texts(LETTERS, "2*x")), texts(LETTERS, "x"))


if __name__ == "__main__":
    unittest.main()
