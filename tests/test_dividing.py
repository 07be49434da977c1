"""Points 14 and 15, and "idealroom/dividing.py" of the interface."""

import random
import unittest
from fractions import Fraction

from helper import (
    added, assert_poly, assert_polys, divided_plainly, divides, drawn, drawn_row, lead, more, multiplied, rings,
    summed_up, texts, tight, told_as_own)
from idealroom.dividing import brought_down, divided
from idealroom.fields import Fractions, Rests
from idealroom.orders import Degrees, Order, Tails, Weights
from idealroom.polys import times
from idealroom.rings import Ring
from idealroom.texts import read

LETTERS = Ring(2, Fractions(), Order())
DEGREES = Ring(2, Fractions(), Degrees())


class Divided(unittest.TestCase):

    def assert_divided(self, ring, f, row, quotients, rest):
        """All of them texts."""
        f, row = read(ring, f), texts(ring, *row)
        told = divided(ring, f, row)
        self.assertIs(type(told), tuple)
        self.assertEqual(len(told), 2)
        self.assertIs(type(told[0]), list)
        self.assertEqual(told, (texts(ring, *quotients), read(ring, rest)))
        self.assertEqual(brought_down(ring, f, row), read(ring, rest))


class WrittenOnes(Divided):

    def test_by_one(self):
        ring = Ring(1, Fractions(), Order())
        self.assert_divided(ring, "x^3-1", ["x-1"], ["x^2+x+1"], "0")
        self.assert_divided(ring, "x^3+x", ["2*x-4"], ["1/2*x^2+x+5/2"], "10")
        self.assert_divided(ring, "x^2", ["x^3"], ["0"], "x^2")
        self.assert_divided(ring, "x^2+1", ["3"], ["1/3*x^2+1/3"], "0")
        self.assert_divided(Ring(1, Rests(5), Order()), "x^3+x", ["2*x-4"], ["3*x^2+x"], "0")

    def test_by_several(self):
        self.assert_divided(LETTERS, "x*y^2+1", ["x*y+1", "y+1"], ["y", "-1"], "2")
        self.assert_divided(LETTERS, "x^2*y+x*y^2+y^2", ["x*y-1", "y^2-1"], ["x+y", "1"], "x+y+1")
        self.assert_divided(LETTERS, "x^2*y+x*y^2+y^2", ["y^2-1", "x*y-1"], ["x+1", "x"], "2*x+1")

    def test_the_earliest_that_fits_takes_the_term(self):
        self.assert_divided(LETTERS, "x^2", ["x", "x^2", "x-y"], ["x", "0", "0"], "0")
        self.assert_divided(LETTERS, "x^2", ["x^2", "x", "x-y"], ["1", "0", "0"], "0")
        self.assert_divided(LETTERS, "x^2", ["x-y", "x"], ["x+y", "0"], "y^2")
        self.assert_divided(LETTERS, "x^2+x", ["x^2-1", "x+3", "x"], ["1", "1", "0"], "-2")
        self.assert_divided(LETTERS, "x+y", ["y", "x+y", "x"], ["0", "1", "0"], "0")

    def test_a_term_goes_over_to_the_rest_and_division_goes_on(self):
        self.assert_divided(LETTERS, "x+y", ["y"], ["1"], "x")
        self.assert_divided(LETTERS, "x^3+x*y+y+2", ["x*y-y", "y-5"], ["1", "2"], "x^3+12")

    def test_noughts_in_the_row_are_passed_over(self):
        self.assert_divided(LETTERS, "x^2", ["0", "x-1", "0"], ["0", "x+1", "0"], "1")
        self.assert_divided(LETTERS, "x^2+y", ["0", "0"], ["0", "0"], "x^2+y")

    def test_an_empty_row(self):
        self.assert_divided(LETTERS, "x^2+y", [], [], "x^2+y")
        self.assert_divided(LETTERS, "0", [], [], "0")

    def test_nought_is_divided(self):
        self.assert_divided(LETTERS, "0", ["x", "0", "y-1"], ["0", "0", "0"], "0")

    def test_numbers_other_than_one_in_front(self):
        self.assert_divided(LETTERS, "x^2-1/3", ["2/3*x+1"], ["3/2*x-9/4"], "23/12")
        self.assert_divided(LETTERS, "x*y+x", ["-3*y+1", "5*x"], ["-1/3*x", "4/15"], "0")
        self.assert_divided(Ring(2, Rests(7), Order()), "x^2-1", ["3*x+1"], ["5*x+3"], "3")

    def test_under_each_order(self):
        f, row = "x^2+x*y^2+y^3", ["x+y^2"]
        self.assert_divided(LETTERS, f, row, ["x"], "y^3")
        self.assert_divided(DEGREES, f, row, ["x+y"], "-x*y")
        self.assert_divided(Ring(2, Fractions(), Tails()), f, row, ["x+y"], "-x*y")
        self.assert_divided(Ring(2, Fractions(), Weights([3, 1])), f, row, ["x"], "y^3")
        self.assert_divided(Ring(2, Fractions(), Weights([1, 1])), f, row, ["x+y"], "-x*y")
        tails, degrees = Ring(3, Rests(3), Tails()), Ring(3, Rests(3), Degrees())
        self.assert_divided(tails, "x*z+y^2", ["y^2-x*z"], ["1"], "2*x*z")
        self.assert_divided(degrees, "x*z+y^2", ["y^2-x*z"], ["2"], "2*y^2")

    def test_a_number_alone_in_the_row(self):
        self.assert_divided(LETTERS, "x^2+y", ["x", "2", "y"], ["x", "1/2*y", "0"], "0")


class Drawn(unittest.TestCase):

    def drawn_cases(self, seed, manys=(1, 2, 3)):
        rng = random.Random(seed)
        for ring in rings(manys):
            for _ in range(6):
                yield ring, drawn(rng, ring, 6, (4,) * ring.many), drawn_row(rng, ring, rng.randint(0, 4))

    def test_as_point_14_tells_step_by_step(self):
        for ring, f, row in self.drawn_cases(1):
            told = divided(ring, f, row)
            self.assertEqual(told, divided_plainly(ring, f, row))
            self.assertEqual(brought_down(ring, f, row), told[1])

    def test_each_sentence_of_point_15(self):
        for ring, f, row in self.drawn_cases(2, (1, 2, 3, 4)):
            quotients, rest = divided(ring, f, row)
            assert_polys(self, ring, quotients)
            assert_poly(self, ring, rest)
            self.assertEqual(len(quotients), len(row))
            self.assertEqual(added(ring, summed_up(ring, quotients, row), rest), f)
            leads = [lead(ring, g) if g else None for g in row]
            for at, quotient in enumerate(quotients):
                if leads[at] is None:
                    self.assertEqual(quotient, {})
                for term in quotient:
                    for earlier in leads[:at]:
                        self.assertFalse(earlier is not None and divides(earlier, more(term, leads[at])))
            for term in rest:
                self.assertFalse(any(first is not None and divides(first, term) for first in leads))

    def test_a_multiple_comes_down_to_nothing(self):
        rng = random.Random(3)
        for ring in rings():
            f, g = drawn(rng, ring), drawn(rng, ring)
            if g:
                self.assertEqual(divided(ring, times(ring, f, g), [g]), ([f], {}))
                self.assertEqual(brought_down(ring, times(ring, f, g), [{}, g]), {})


class GreatOnes(unittest.TestCase):

    def test_great_powers(self):
        ring = Ring(2, Fractions(), Order())
        f, row = tight(ring, {(200, 0): 1}), [tight(ring, {(1, 0): 1, (0, 1): -2})]
        quotients, rest = divided(ring, f, row)
        self.assertEqual(quotients, [tight(ring, {(199 - at, at): 2 ** at for at in range(200)})])
        self.assertEqual(rest, tight(ring, {(0, 200): 2 ** 200}))

    def test_many_terms(self):
        ring = Ring(2, Rests(9973), Degrees())
        f = tight(ring, {(a, b): a + 20 * b + 1 for a in range(20) for b in range(20)})
        g = tight(ring, {(0, 0): 5, (1, 0): 1, (0, 1): 3})
        self.assertEqual(divided(ring, multiplied(ring, f, g), [g]), ([f], {}))

    def test_great_numbers(self):
        great = 10 ** 60 - 1
        ring = Ring(2, Fractions(), Tails())
        f = tight(ring, {(3, 1): Fraction(great, 7), (0, 2): -great, (0, 0): Fraction(1, great - 1)})
        row = [tight(ring, {(1, 0): great - 2, (0, 0): Fraction(-5, great)}), tight(ring, {(0, 1): Fraction(1, great)})]
        self.assertEqual(divided(ring, f, row), divided_plainly(ring, f, row))


class WhatIsHandedInAndTold(unittest.TestCase):
    """Point 2."""

    def test_drawn_ones(self):
        rng = random.Random(4)
        for ring in rings((1, 2)):
            f, row = drawn(rng, ring, 6), drawn_row(rng, ring, 3) + [{}, {}]
            told_as_own(self, divided, ring, f, row)
            told_as_own(self, brought_down, ring, f, row)

    def test_where_what_is_told_equals_what_was_handed_in(self):
        f = read(LETTERS, "x+y")
        for row in ([], [{}], [{}, {}], texts(LETTERS, "x^5", "y^2")):
            self.assertEqual(told_as_own(self, divided, LETTERS, f, row), ([{} for _ in row], f))
            self.assertEqual(told_as_own(self, brought_down, LETTERS, f, row), f)
        told_as_own(self, divided, LETTERS, {}, [{}, {}])

    def test_the_same_dict_at_several_places(self):
        f = read(LETTERS, "x+y")
        quotients, rest = divided(LETTERS, f, [f, f])
        self.assertEqual((quotients, rest), ([{(0, 0): (1, 1)}, {}], {}))
        self.assertEqual(f, read(LETTERS, "x+y"))

    def test_arguments_by_their_names(self):
        f = read(LETTERS, "x+y")
        self.assertEqual(divided(ring=LETTERS, f=f, row=[f]), ([{(0, 0): (1, 1)}], {}))
        self.assertEqual(brought_down(ring=LETTERS, f=f, row=[]), f)


if __name__ == "__main__":
    unittest.main()
