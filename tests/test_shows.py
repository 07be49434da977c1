"""Point 12, and "idealroom/shows.py" of the interface."""

import random
import unittest
from fractions import Fraction

from helper import drawn, rings, rising, tight, told_as_own
from idealroom.fields import Fractions, Rests
from idealroom.orders import Degrees, Order, Tails, Weights
from idealroom.rings import Ring
from idealroom.shows import shown

SIXTY = 10 ** 60 - 1


class Shown(unittest.TestCase):

    def assert_shown(self, ring, f, text):
        with self.subTest(text=text):
            told = shown(ring, tight(ring, f))
            self.assertIs(type(told), str)
            self.assertEqual(told, text)


class TheDocumentsOwn(Shown):

    def test_both(self):
        ring = Ring(3, Fractions(), Order())
        self.assert_shown(ring, {(2, 1, 0): Fraction(-1, 2), (0, 0, 1): 1, (0, 0, 0): -3}, "-1/2*x^2*y + z - 3")
        ring = Ring(4, Fractions(), Order())
        self.assert_shown(ring, {(1, 0, 0, 0): -1, (0, 1, 0, 0): 1, (0, 0, 1, 1): -1}, "-x + y - z*t")


class Nought(Shown):

    def test_is_shown_as_0(self):
        for ring in rings():
            self.assert_shown(ring, {}, "0")


class TheNumber(Shown):

    def test_1_is_left_out_but_where_the_term_is_1(self):
        for field in (Fractions(), Rests(2), Rests(7)):
            ring = Ring(2, field, Order())
            self.assert_shown(ring, {(0, 0): 1}, "1")
            self.assert_shown(ring, {(1, 0): 1}, "x")
            self.assert_shown(ring, {(1, 2): 1, (0, 0): 1}, "x*y^2 + 1")

    def test_below_0_in_the_first_part(self):
        ring = Ring(2, Fractions(), Order())
        self.assert_shown(ring, {(0, 0): -1}, "-1")
        self.assert_shown(ring, {(1, 0): -1}, "-x")
        self.assert_shown(ring, {(1, 0): -2}, "-2*x")
        self.assert_shown(ring, {(1, 0): Fraction(-2, 3), (0, 1): 1}, "-2/3*x + y")
        self.assert_shown(ring, {(0, 0): Fraction(-1, 3)}, "-1/3")

    def test_below_0_behind(self):
        ring = Ring(2, Fractions(), Order())
        self.assert_shown(ring, {(1, 0): 1, (0, 1): -1, (0, 0): -1}, "x - y - 1")
        self.assert_shown(ring, {(1, 0): 1, (0, 1): -5, (0, 0): Fraction(-7, 2)}, "x - 5*y - 7/2")
        self.assert_shown(ring, {(1, 0): -1, (0, 1): Fraction(-1, 2), (0, 0): 4}, "-x - 1/2*y + 4")

    def test_fractions(self):
        ring = Ring(1, Fractions(), Order())
        self.assert_shown(ring, {(2,): Fraction(1, 2), (1,): Fraction(3, 2), (0,): 10}, "1/2*x^2 + 3/2*x + 10")
        self.assert_shown(ring, {(1,): Fraction(SIXTY, 2), (0,): -SIXTY}, f"{SIXTY}/2*x - {SIXTY}")

    def test_of_four_thousand_figures(self):
        ring = Ring(1, Fractions(), Order())
        great = "7" * 4000
        self.assertEqual(shown(ring, {(1,): (-10 ** 3999, 3), (0,): (1, 10 ** 3999)}),
                         "-1" + "0" * 3999 + "/3*x + 1/1" + "0" * 3999)
        self.assertEqual(shown(ring, {(0,): (int(great), 1)}), great)

    def test_rests_are_never_below_0(self):
        ring = Ring(2, Rests(7), Order())
        self.assert_shown(ring, {(1, 0): -1, (0, 1): -2, (0, 0): 3}, "6*x + 5*y + 3")
        self.assert_shown(ring, {(0, 0): -1}, "6")
        self.assert_shown(Ring(2, Rests(2), Order()), {(1, 0): -1, (0, 1): -1}, "x + y")
        self.assert_shown(Ring(1, Rests(9973), Order()), {(3,): -1}, "9972*x^3")


class TheUnknowns(Shown):

    def test_the_letter_alone_for_the_power_1(self):
        ring = Ring(4, Rests(5), Order())
        self.assert_shown(ring, {(1, 1, 1, 1): 1}, "x*y*z*t")
        self.assert_shown(ring, {(1, 1, 1, 1): 3}, "3*x*y*z*t")
        self.assert_shown(ring, {(2, 1, 0, 10): 3}, "3*x^2*y*t^10")
        self.assert_shown(ring, {(0, 0, 0, 200): 1}, "t^200")
        self.assert_shown(ring, {(0, 0, 7, 0): 2}, "2*z^7")

    def test_in_the_order_of_their_letters_whatever_the_rings_order(self):
        for order in (Order(), Degrees(), Tails(), Weights([0, 0, 0, 1])):
            self.assert_shown(Ring(4, Fractions(), order), {(1, 2, 3, 4): -2}, "-2*x*y^2*z^3*t^4")


class TheOrder(Shown):

    def test_the_first_term_first(self):
        f = {(1, 0, 1): -1, (0, 2, 0): -2, (0, 0, 3): 3, (0, 0, 0): -4, (1, 0, 0): 5}
        for order, text in (
                (Order(), "-x*z + 5*x - 2*y^2 + 3*z^3 - 4"),
                (Degrees(), "3*z^3 - x*z - 2*y^2 + 5*x - 4"),
                (Tails(), "3*z^3 - 2*y^2 - x*z + 5*x - 4"),
                (Weights([0, 1, 0]), "-2*y^2 - x*z + 5*x + 3*z^3 - 4"),
                (Weights([0, 0, 1]), "3*z^3 - x*z + 5*x - 2*y^2 - 4")):
            self.assert_shown(Ring(3, Fractions(), order), f, text)

    def test_whatever_order_the_keys_have(self):
        ring = Ring(2, Fractions(), Degrees())
        parts = [((2, 0), (1, 1)), ((1, 1), (-1, 1)), ((0, 2), (3, 1)), ((0, 0), (1, 2))]
        for turn in range(4):
            f = dict(parts[turn:] + parts[:turn])
            self.assertEqual(shown(ring, f), "x^2 - x*y + 3*y^2 + 1/2")


class Drawn(unittest.TestCase):

    def part(self, ring, term, number):
        text = "" if number == 1 and any(term) else str(number)
        for letter, power in zip("xyzt", term):
            if power:
                text += ("*" if text else "") + letter + (f"^{power}" if power > 1 else "")
        return text

    def test_drawn_ones(self):
        rng = random.Random(12)
        for ring in rings():
            for _ in range(4):
                f = drawn(rng, ring, 6, (3,) * ring.many)
                text = ""
                for term in rising(ring, f)[::-1]:
                    number = Fraction(*f[term]) if ring.field.prime == 0 else f[term]
                    if text:
                        text += " - " if number < 0 else " + "
                    elif number < 0:
                        text = "-"
                    text += self.part(ring, term, abs(number))
                self.assertEqual(shown(ring, f), text or "0")


class WhatIsHandedIn(unittest.TestCase):

    def test_it_stays_as_it_was(self):
        rng = random.Random(13)
        for ring in rings((2, 4)):
            told_as_own(self, shown, ring, drawn(rng, ring, 6))

    def test_arguments_by_their_names(self):
        self.assertEqual(shown(ring=Ring(1, Rests(3), Order()), f={(1,): 2}), "2*x")


if __name__ == "__main__":
    unittest.main()
