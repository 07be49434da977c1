"""Points 25 and 26, and "idealroom/within.py" of the interface."""

import random
import unittest

from helper import (
    added, assert_poly, assert_polys, closed_cases, drawn, drawn_cases, drawn_row, is_closed_plainly,
    least_base_plainly, multiplied, refused_as_it_was, rest_of, rings, summed_up, texts, told_as_own)
from idealroom.errors import NoBox, Open
from idealroom.fields import Fractions, Rests
from idealroom.orders import Degrees, Order
from idealroom.polys import plus
from idealroom.rings import Ring
from idealroom.texts import read
from idealroom.within import is_within, looked_up, same_sums

LETTERS = Ring(2, Fractions(), Order())
DEGREES = Ring(2, Fractions(), Degrees())


class LookedUp(unittest.TestCase):

    def assert_looked_up(self, ring, told, box, poly, rest):
        answer = looked_up(ring, told, box, poly)
        self.assertIs(type(answer), tuple)
        self.assertEqual(len(answer), 2)
        multiples, left = answer
        assert_polys(self, ring, multiples)
        assert_poly(self, ring, left)
        self.assertEqual(left, rest)
        self.assertEqual(len(multiples), len(told))
        self.assertEqual(added(ring, summed_up(ring, multiples, told), left), poly)
        self.assertIs(is_within(ring, told, box, poly), rest == {})

    def assert_texts(self, ring, told, box, poly, rest):
        with self.subTest(told=told, poly=poly):
            self.assert_looked_up(ring, texts(ring, *told), box, read(ring, poly), read(ring, rest))

    def test_written_ones(self):
        told, box = ["x*y-1", "y^2-1"], [1, 2]
        self.assert_texts(LETTERS, told, box, "x-y", "0")
        self.assert_texts(LETTERS, told, box, "x", "y")
        self.assert_texts(LETTERS, told, box, "0", "0")
        self.assert_texts(LETTERS, told, box, "1", "1")
        self.assert_texts(LETTERS, told, box, "x^2-1", "0")
        self.assert_texts(LETTERS, told, box, "2*x*y^2+3/2", "2*y+3/2")
        self.assert_texts(DEGREES, told, box, "x+3*y", "4*y")

    def test_outside_the_box(self):
        told, box = ["x*y-1", "y^2-1"], [1, 2]
        self.assert_texts(LETTERS, told, box, "x^90-1", "0")
        self.assert_texts(LETTERS, told, box, "x^91*y^7-1", "0")
        self.assert_texts(LETTERS, told, box, "x^91*y^6+5", "y+5")
        self.assert_texts(LETTERS, ["x"], [1, 0], "x*y^99+y^98", "y^98")

    def test_within_by_multiples_that_leave_the_box(self):
        told = texts(LETTERS, "x^2-x*y^2", "x^2*y")
        poly = read(LETTERS, "x^2*y^2+7*x^3*y^4-x*y^9")
        self.assert_looked_up(LETTERS, told, [2, 3], poly, {})

    def test_by_the_whole_row_and_by_noughts(self):
        self.assert_texts(LETTERS, ["0", "x-y", "0"], [1, 1], "x^2-y^2", "0")
        self.assert_texts(LETTERS, [], [0, 0], "x+1", "x+1")
        self.assert_texts(LETTERS, ["0"], [0, 0], "x+1", "x+1")
        self.assert_texts(LETTERS, [], [0, 0], "0", "0")
        self.assert_texts(LETTERS, ["3"], [0, 0], "x^2+y", "0")

    def test_drawn_ones(self):
        rng = random.Random(1)
        answers = []
        for ring, told, box, base in closed_cases(2):
            bounds = [bound + 2 for bound in box]
            inside = {}
            for f in told:
                inside = added(ring, inside, multiplied(ring, drawn(rng, ring, 2), f))
            for poly in (drawn(rng, ring, 4, bounds), drawn(rng, ring, 2, box), inside):
                rest = rest_of(ring, poly, base)
                answers.append(rest == {})
                self.assert_looked_up(ring, told, box, poly, rest)
            self.assertIs(is_within(ring, told, box, inside), True)
        self.assertGreater(answers.count(False), 40)

    def test_the_same_rest_where_the_difference_is_within(self):
        rng = random.Random(3)
        for ring, told, box, base in closed_cases(4):
            if told:
                f = drawn(rng, ring, 4)
                g = plus(ring, f, multiplied(ring, drawn(rng, ring, 3), rng.choice(told)))
                self.assertEqual(looked_up(ring, told, box, f)[1], looked_up(ring, told, box, g)[1])

    def test_the_same_rest_whatever_form_the_row_has(self):
        rng = random.Random(5)
        for ring, told, box, base in closed_cases(6, (1, 2)):
            poly = drawn(rng, ring, 4)
            rest = looked_up(ring, told, box, poly)[1]
            for other in (told[::-1], told + told, [{}] + told):
                self.assert_looked_up(ring, other, box, poly, rest)


class SameSums(unittest.TestCase):

    def assert_same(self, ring, ones, others, box, expected):
        with self.subTest(ones=ones, others=others):
            ones, others = texts(ring, *ones), texts(ring, *others)
            self.assertIs(same_sums(ring, ones, others, box), expected)
            self.assertIs(same_sums(ring, others, ones, box), expected)

    def test_written_ones(self):
        self.assert_same(LETTERS, ["x+y", "x-y"], ["x", "y"], [1, 1], True)
        self.assert_same(LETTERS, ["x+y", "x-y"], ["x"], [1, 1], False)
        self.assert_same(LETTERS, ["x*y-1", "y^2-1"], ["x-y", "x^2-1"], [2, 2], True)
        self.assert_same(LETTERS, ["x^2"], ["x"], [2, 2], False)
        self.assert_same(LETTERS, ["2*x"], ["-1/3*x"], [2, 2], True)
        self.assert_same(Ring(2, Rests(2), Order()), ["x+y"], ["x-y"], [2, 2], True)
        self.assert_same(LETTERS, ["x+y"], ["x-y"], [2, 2], False)

    def test_empty_rows_noughts_and_numbers(self):
        self.assert_same(LETTERS, [], [], [0, 0], True)
        self.assert_same(LETTERS, [], ["0", "0"], [0, 0], True)
        self.assert_same(LETTERS, [], ["1"], [0, 0], False)
        self.assert_same(LETTERS, ["7"], ["x", "x+1"], [1, 0], True)
        self.assert_same(LETTERS, ["x"], [], [1, 0], False)
        self.assert_same(LETTERS, ["x"], ["0", "x", "x"], [1, 0], True)

    def test_drawn_ones(self):
        rng = random.Random(7)
        for ring, told, box, base in closed_cases(8, (1, 2)):
            self.assertIs(same_sums(ring, told, told[::-1] + [{}], box), True)
            other = drawn_row(rng, ring, 2, 2, [min(1, bound) for bound in box])
            if is_closed_plainly(ring, other, box):
                expected = least_base_plainly(ring, other) == base
                self.assertIs(same_sums(ring, told, other, box), expected)
                self.assertIs(same_sums(ring, other, told, box), expected)
            if is_closed_plainly(ring, base, box):
                self.assertIs(same_sums(ring, base, told, box), True)


class Refusals(unittest.TestCase):

    def test_no_box_goes_ahead_of_open(self):
        for ring in rings((1, 2)):
            far = {(200,) * ring.many: ring.field.one()}
            x = ring.unknown(0)
            for box in ([0] * (ring.many + 1), [-1] * ring.many, [100] + [0] * (ring.many - 1), []):
                for told in ([], [far], [x]):
                    refused_as_it_was(self, NoBox, looked_up, ring, told, box, x)
                    refused_as_it_was(self, NoBox, is_within, ring, told, box, {})
                    refused_as_it_was(self, NoBox, same_sums, ring, told, [], box)
                    refused_as_it_was(self, NoBox, same_sums, ring, [], told, box)

    def test_open_where_the_row_is_not_closed(self):
        told = texts(LETTERS, "x*y-1", "y^2-1")
        for poly in texts(LETTERS, "0", "1", "x", "x*y-1", "x^9"):
            refused_as_it_was(self, Open, looked_up, LETTERS, told, [1, 1], poly)
            refused_as_it_was(self, Open, is_within, LETTERS, told, [1, 1], poly)

    def test_open_where_either_of_two_rows_is_not_closed(self):
        closed, not_closed = texts(LETTERS, "x"), texts(LETTERS, "x*y-1", "y^2-1")
        refused_as_it_was(self, Open, same_sums, LETTERS, closed, not_closed, [1, 1])
        refused_as_it_was(self, Open, same_sums, LETTERS, not_closed, closed, [1, 1])
        refused_as_it_was(self, Open, same_sums, LETTERS, not_closed, not_closed, [1, 1])
        self.assertIs(same_sums(LETTERS, closed, not_closed, [1, 2]), False)

    def test_drawn_ones(self):
        rng = random.Random(9)
        for ring, told, box in drawn_cases(10, (1, 2)):
            poly = drawn(rng, ring)
            if not is_closed_plainly(ring, told, box):
                refused_as_it_was(self, Open, looked_up, ring, told, box, poly)
                refused_as_it_was(self, Open, is_within, ring, told, box, poly)
                refused_as_it_was(self, Open, same_sums, ring, told, [], box)
                refused_as_it_was(self, Open, same_sums, ring, [], told, box)


class WhatIsHandedInAndTold(unittest.TestCase):
    """Point 2."""

    def test_drawn_ones(self):
        rng = random.Random(11)
        for ring, told, box, base in closed_cases(12, (1, 2)):
            poly = drawn(rng, ring)
            told_as_own(self, looked_up, ring, told + [{}, {}], box, poly)
            told_as_own(self, is_within, ring, told, box, poly)
            told_as_own(self, same_sums, ring, told, told[::-1], box)

    def test_where_what_is_told_equals_what_was_handed_in(self):
        poly = read(LETTERS, "x+y")
        for told in ([], [{}], [{}, {}], [poly], texts(LETTERS, "1")):
            told_as_own(self, looked_up, LETTERS, told, [1, 1], poly)
            told_as_own(self, looked_up, LETTERS, told, [1, 1], {})

    def test_arguments_by_their_names(self):
        told, poly = texts(LETTERS, "2*x"), read(LETTERS, "x+y")
        self.assertEqual(looked_up(ring=LETTERS, told=told, box=[1, 0], poly=poly), (texts(LETTERS, "1/2"), read(LETTERS, "y")))
        self.assertIs(is_within(ring=LETTERS, told=told, box=[1, 0], poly=poly), False)
        self.assertIs(same_sums(ring=LETTERS, ones=told, others=[], box=[1, 0]), False)


if __name__ == "__main__":
    unittest.main()
