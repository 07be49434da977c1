"""Point 24, with points 19 and 23, and "idealroom/completing.py" of the interface."""

import random
import unittest
from fractions import Fraction

from helper import (
    added, assert_poly, assert_polys, closed_cases, drawn, drawn_cases, is_closed_plainly, least_base_plainly,
    multiplied, refused_as_it_was, rest_of, rings, summed_up, texts, tight, told_as_own)
from idealroom.completing import completed, least_base
from idealroom.errors import NoBox, Open
from idealroom.fields import Fractions, Rests
from idealroom.orders import Degrees, Order, Tails, Weights
from idealroom.rings import Ring
from idealroom.rooms import bare

LETTERS = Ring(2, Fractions(), Order())
DEGREES = Ring(2, Fractions(), Degrees())
ASKED = (completed, least_base)


class Completed(unittest.TestCase):

    def assert_completed(self, ring, told, box, expected):
        """The rows have these polynomials, and multiples that sum up to them."""
        rows = completed(ring, told, box)
        self.assertIs(type(rows), list)
        self.assertEqual([row[0] for row in rows], expected)
        for row in rows:
            self.assertIs(type(row), tuple)
            self.assertEqual(len(row), 2)
            assert_poly(self, ring, row[0])
            assert_polys(self, ring, row[1])
            self.assertEqual(len(row[1]), len(told))
            self.assertEqual(summed_up(ring, row[1], told), row[0])
        base = least_base(ring, told, box)
        self.assertIs(type(base), list)
        self.assertEqual(base, expected)

    def assert_open(self, ring, told, box):
        for function in ASKED:
            refused_as_it_was(self, Open, function, ring, told, box)


class WrittenOnes(Completed):

    def assert_texts(self, ring, told, box, expected):
        with self.subTest(told=told, box=box):
            self.assert_completed(ring, texts(ring, *told), box, texts(ring, *expected))

    def test_by_letters(self):
        self.assert_texts(LETTERS, ["x"], [1, 0], ["x"])
        self.assert_texts(LETTERS, ["2*x+4*y"], [1, 1], ["x+2*y"])
        self.assert_texts(LETTERS, ["x+y", "x-y"], [1, 1], ["x", "y"])
        self.assert_texts(LETTERS, ["x*y-1", "y^2-1"], [1, 2], ["x-y", "y^2-1"])
        self.assert_texts(LETTERS, ["x^2+y^2-1", "x-y"], [2, 2], ["x-y", "y^2-1/2"])
        self.assert_texts(LETTERS, ["x-y", "x-y+3"], [1, 1], ["1"])
        self.assert_texts(LETTERS, ["5"], [0, 0], ["1"])

    def test_under_other_orders(self):
        told = ["x-y^2", "y^3-1"]
        self.assert_texts(LETTERS, told, [1, 3], ["x-y^2", "y^3-1"])
        self.assert_texts(DEGREES, told, [2, 4], ["x^2-y", "x*y-1", "y^2-x"])
        self.assert_texts(Ring(2, Fractions(), Tails()), told, [2, 4], ["x^2-y", "x*y-1", "y^2-x"])
        self.assert_texts(Ring(2, Fractions(), Weights([2, 1])), told, [1, 3], ["y^3-1", "x-y^2"])
        self.assert_texts(Ring(2, Rests(2), Degrees()), told, [2, 4], ["x^2+y", "x*y+1", "y^2+x"])

    def test_terms_that_the_room_does_not_bring_down(self):
        # The bare rows are not the least base here: the multiples that would bring them down leave the box.
        told, box = ["x^2+x*y^2-y", "x^2+x*y^2"], [3, 2]
        self.assertEqual(bare(LETTERS, texts(LETTERS, *told), box), texts(LETTERS, "x^2+x*y^2", "y"))
        self.assert_texts(LETTERS, told, box, ["x^2", "y"])
        self.assert_texts(DEGREES, ["x^2+y^2-1", "x^2*y+y^3"], [3, 3], ["x^2-1", "y"])
        self.assert_texts(Ring(2, Fractions(), Tails()), ["-x*y^3+x^2*y+x", "y^3-x*y"], [3, 3], ["y^3", "x"])
        self.assert_texts(LETTERS, ["x+y^3", "y^2-2", "x^3-8*x"], [1, 3], ["x+2*y", "y^2-2"])

    def test_a_base_that_leaves_the_box(self):
        ring = Ring(3, Fractions(), Order())
        self.assert_texts(ring, ["y^2+z^2", "x^2*z-y^2*z^2"], [2, 3, 2], ["x^2*z+z^4", "y^2+z^2"])
        ring = Ring(3, Rests(5), Degrees())
        self.assert_texts(ring, ["y^3+x^2", "x*y^3*z^2-x^2*y^3+x*z^2"], [3, 3, 3], ["x^3*z^2-x^4-x*z^2", "y^3+x^2"])

    def test_a_told_one_outside_the_box(self):
        self.assert_texts(LETTERS, ["x^9", "x", "y"], [1, 1], ["x", "y"])
        self.assert_texts(LETTERS, ["x-y", "x^9-y^9"], [1, 1], ["x-y"])
        self.assert_open(LETTERS, texts(LETTERS, "x-y", "x^9-y^8"), [1, 1])

    def test_empty_rows_and_rows_of_noughts(self):
        for ring in rings():
            for told in ([], [{}], [{}, {}, {}]):
                self.assert_completed(ring, told, [0] * ring.many, [])
                self.assert_completed(ring, told, [1] * ring.many, [])

    def test_rows_that_are_not_closed(self):
        for told, box in ((["x"], [0, 0]), (["x", "y"], [1, 0]), (["x", "y"], [0, 1]), (["x*y-1", "y^2-1"], [1, 1]),
                          (["x^2-x*y^2", "x^2*y"], [2, 2]), (["x^2-x*y^2", "x^2*y"], [3, 2]), (["0", "x^3"], [2, 2])):
            self.assert_open(LETTERS, texts(LETTERS, *told), box)
        self.assert_completed(LETTERS, texts(LETTERS, "x^2-x*y^2", "x^2*y"), [2, 3],
                              texts(LETTERS, "x^2-x*y^2", "x*y^3"))

    def test_no_box_goes_ahead_of_open(self):
        for ring in rings():
            far = {(200,) * ring.many: ring.field.one(), (0,) * ring.many: ring.field.one()}
            for told in ([], [{}], [far], [ring.unknown(0)]):
                for box in ([0] * (ring.many + 1), [0] * (ring.many - 1), [100] + [0] * (ring.many - 1),
                            [0] * (ring.many - 1) + [-1]):
                    for function in ASKED:
                        refused_as_it_was(self, NoBox, function, ring, told, box)
            self.assert_open(ring, [far], [1] * ring.many)


class Drawn(Completed):

    def test_the_least_base_of_closed_rows_or_open(self):
        answers = []
        for seed in (1, 2):
            for ring, told, box in drawn_cases(seed):
                answers.append(is_closed_plainly(ring, told, box))
                if answers[-1]:
                    self.assert_completed(ring, told, box, least_base_plainly(ring, told))
                else:
                    self.assert_open(ring, told, box)
        self.assertGreater(answers.count(True), 20)
        self.assertGreater(answers.count(False), 20)

    def test_of_four_unknowns(self):
        for ring, told, box, base in closed_cases(3, (4,), 2):
            self.assert_completed(ring, told, box, base)

    def test_in_another_order_with_noughts_doubled_and_multiplied_by_numbers(self):
        rng = random.Random(4)
        for ring, told, box, base in closed_cases(5):
            scales = [tight(ring, {(0,) * ring.many: rng.choice([-1, 1, Fraction(-3, 13), 50])}) for _ in told]
            scaled = [f if ring.field.prime in (2, 3) else multiplied(ring, scale, f) for scale, f in zip(scales, told)]
            mixed = told + scaled + [{}, {}]
            rng.shuffle(mixed)
            for other in (told[::-1], told + told, [{}] + told, scaled, mixed):
                self.assert_completed(ring, other, box, base)

    def test_in_a_greater_box(self):
        rng = random.Random(6)
        for ring, told, box, base in closed_cases(7):
            greater = list(box)
            greater[rng.randrange(ring.many)] += 1
            for other in (greater, [number + 1 for number in box]):
                if ring.many < 3 or max(other) < 4:
                    self.assert_completed(ring, told, other, base)

    def test_told_ones_mixed_with_one_another(self):
        rng = random.Random(8)
        for ring, told, box, base in closed_cases(9, (1, 2)):
            if len(told) > 1:
                mixed = [added(ring, told[0], multiplied(ring, drawn(rng, ring, 2, (1,) * ring.many), told[1]))] + told[1:]
                for other in (box, [9] if ring.many == 1 else [6, 6]):
                    if is_closed_plainly(ring, mixed, other):
                        self.assert_completed(ring, mixed, other, base)
                    else:
                        self.assert_open(ring, mixed, other)

    def test_each_told_one_comes_down_to_nothing(self):
        for ring, told, box, base in closed_cases(10):
            found = least_base(ring, told, box)
            for f in told:
                self.assertEqual(rest_of(ring, f, found), {})

    def test_great_numbers(self):
        great = 10 ** 60 - 1
        told = [tight(LETTERS, {(1, 1): great, (0, 0): Fraction(1, great - 1)}),
                tight(LETTERS, {(0, 2): Fraction(great, 11), (0, 0): 1 - great})]
        self.assert_completed(LETTERS, told, [1, 2], least_base_plainly(LETTERS, told))


class WhatIsHandedInAndTold(unittest.TestCase):
    """Point 2."""

    def test_drawn_ones(self):
        for ring, told, box, base in closed_cases(11, (1, 2)):
            for function in ASKED:
                told_as_own(self, function, ring, told + [{}, {}], box)

    def test_where_what_is_told_equals_what_was_handed_in(self):
        for written in ([], ["x"], ["x", "y"], ["1"], ["0", "0", "y"], ["x", "x"]):
            for function in ASKED:
                told_as_own(self, function, LETTERS, texts(LETTERS, *written), [1, 1])

    def test_arguments_by_their_names(self):
        told = texts(LETTERS, "2*x")
        self.assertEqual(completed(ring=LETTERS, told=told, box=[1, 0]), [(texts(LETTERS, "x")[0], texts(LETTERS, "1/2"))])
        self.assertEqual(least_base(ring=LETTERS, told=told, box=[1, 0]), texts(LETTERS, "x"))


if __name__ == "__main__":
    unittest.main()
