"""Point 27, with point 7, and "idealroom/taking.py" of the interface."""

import random
import unittest

from helper import (
    assert_polys, drawn, drawn_cases, is_closed_plainly, least_base_plainly, refused_as_it_was, rings, texts,
    told_as_own)
from idealroom.errors import NoBox, NoOrder, Open
from idealroom.fields import Fractions, Rests
from idealroom.orders import Degrees, Order, Tails, Weights
from idealroom.rings import Ring
from idealroom.taking import taken_out

LETTERS = Ring(2, Fractions(), Order())
SPACE = Ring(3, Fractions(), Order())


class TakenOut(unittest.TestCase):

    def assert_taken_out(self, ring, told, box, k, expected):
        with self.subTest(told=told, k=k):
            answer = taken_out(ring, texts(ring, *told), box, k)
            self.assertIs(type(answer), list)
            assert_polys(self, ring, answer)
            self.assertEqual(answer, texts(ring, *expected))

    def test_one_of_two(self):
        self.assert_taken_out(LETTERS, ["x*y-1", "y^2-1"], [1, 2], 1, ["y^2-1"])
        self.assert_taken_out(LETTERS, ["x+y", "x-y"], [1, 1], 1, ["y"])
        self.assert_taken_out(LETTERS, ["x^2-1"], [2, 2], 1, [])
        self.assert_taken_out(LETTERS, ["x^2+y^2-1", "x-y"], [2, 2], 1, ["y^2-1/2"])
        self.assert_taken_out(Ring(2, Rests(5), Order()), ["x-y^2", "x^2-y"], [2, 4], 1, ["y^4-y"])
        self.assert_taken_out(LETTERS, ["x", "x+1"], [1, 1], 1, ["1"])

    def test_empty_rows(self):
        self.assert_taken_out(LETTERS, [], [0, 0], 1, [])
        self.assert_taken_out(LETTERS, ["0"], [0, 0], 1, [])

    def test_each_k_of_three(self):
        told, box = ["x-y-z", "y^2-z", "z^2-1"], [1, 2, 2]
        self.assert_taken_out(SPACE, told, box, 1, ["y^2-z", "z^2-1"])
        self.assert_taken_out(SPACE, told, box, 2, ["z^2-1"])

    def test_each_k_of_four(self):
        ring = Ring(4, Rests(7), Order())
        told, box = ["x-t", "y-t", "z-t", "t^2-1"], [1, 1, 1, 2]
        self.assert_taken_out(ring, told, box, 1, ["y-t", "z-t", "t^2-1"])
        self.assert_taken_out(ring, told, box, 2, ["z-t", "t^2-1"])
        self.assert_taken_out(ring, told, box, 3, ["t^2-1"])

    def test_by_weights(self):
        told, box = ["x-y-z", "y^2-z", "z^2-1"], [1, 2, 2]
        self.assert_taken_out(Ring(3, Fractions(), Weights([1, 0, 0])), told, box, 1, ["y^2-z", "z^2-1"])
        self.assert_taken_out(Ring(3, Fractions(), Weights([1, 0, 0])), told, box, 2, ["z^2-1"])
        self.assert_taken_out(Ring(3, Fractions(), Weights([1, 1, 0])), told, [2, 2, 2], 2, ["z^2-1"])
        self.assert_taken_out(Ring(3, Fractions(), Weights([0, 0, 0])), told, box, 1, ["y^2-z", "z^2-1"])

    def test_drawn_ones(self):
        rng = random.Random(1)
        found, refused = 0, 0
        for ring in rings((2, 3, 4)) * 2:
            # The bounds of the drawn ones leave unknowns out, so that there is something without them in the base.
            bound = rng.choice([1, 1, 2])
            told = [drawn(rng, ring, 2, [0] * at + [bound] * (ring.many - at)) for at in range(ring.many)]
            box = [rng.randint(1, {2: 4, 3: 2, 4: 1}[ring.many]) for _ in range(ring.many)]
            closed = is_closed_plainly(ring, told, box)
            for k in range(1, ring.many):
                if isinstance(ring.order, (Degrees, Tails)) or (
                        isinstance(ring.order, Weights) and any(ring.order.weights[k:])):
                    refused_as_it_was(self, NoOrder, taken_out, ring, told, box, k)
                elif closed:
                    expected = [f for f in least_base_plainly(ring, told) if all(not any(term[:k]) for term in f)]
                    found += len(expected)
                    self.assertEqual(taken_out(ring, told, box, k), expected)
                else:
                    refused += 1
                    refused_as_it_was(self, Open, taken_out, ring, told, box, k)
        self.assertGreater(found, 20)
        self.assertGreater(refused, 10)

    def test_they_are_the_least_base_of_all_sums_without_these_unknowns(self):
        # Those sums have first terms without x as well: the base of the row in which x goes last tells the same.
        for field in (Fractions(), Rests(3)):
            ring = Ring(2, field, Order())
            told = texts(ring, "x^2-y", "x*y-1")
            self.assertEqual(taken_out(ring, told, [4, 4], 1), texts(ring, "y^3-1"))
            self.assertEqual(least_base_plainly(ring, told)[-1:], texts(ring, "y^3-1"))


class Refusals(unittest.TestCase):

    def test_k_too_small_or_too_great(self):
        for many in (1, 2, 3, 4):
            ring = Ring(many, Fractions(), Order())
            for k in (0, -1, -2, many, many + 1, 10 ** 60, -(10 ** 60)):
                refused_as_it_was(self, NoOrder, taken_out, ring, [], [1] * many, k)
            for k in range(1, many):
                self.assertEqual(taken_out(ring, [], [1] * many, k), [])

    def test_k_too_small_or_too_great_by_weights(self):
        ring = Ring(3, Fractions(), Weights([0, 0, 0]))
        for k in (0, -1, -3, 3, 4, 100):
            refused_as_it_was(self, NoOrder, taken_out, ring, [], [1, 1, 1], k)

    def test_an_order_that_takes_none_out(self):
        for order in (Degrees(), Tails(), Weights([1, 1, 1]), Weights([0, 0, 1])):
            ring = Ring(3, Rests(3), order)
            for k in (1, 2):
                refused_as_it_was(self, NoOrder, taken_out, ring, texts(ring, "x"), [1, 1, 1], k)

    def test_an_order_that_takes_some_out(self):
        ring = Ring(4, Rests(3), Weights([5, 1, 0, 0]))
        refused_as_it_was(self, NoOrder, taken_out, ring, [], [1, 1, 1, 1], 1)
        self.assertEqual(taken_out(ring, [], [1, 1, 1, 1], 2), [])
        self.assertEqual(taken_out(ring, [], [1, 1, 1, 1], 3), [])
        refused_as_it_was(self, NoOrder, taken_out, ring, [], [1, 1, 1, 1], 4)

    def test_no_box_then_no_order_then_open(self):
        far, near = texts(LETTERS, "x^9+y"), texts(LETTERS, "x")
        for box in ([1], [1, 1, 1], [-1, 1], [9, 10]):
            for k in (-1, 0, 1, 2):
                for told in (far, near, []):
                    refused_as_it_was(self, NoBox, taken_out, LETTERS, told, box, k)
        for k in (-1, 0, 2, 3):
            refused_as_it_was(self, NoOrder, taken_out, LETTERS, far, [1, 1], k)
        refused_as_it_was(self, Open, taken_out, LETTERS, far, [1, 1], 1)
        degrees = Ring(2, Fractions(), Degrees())
        refused_as_it_was(self, NoBox, taken_out, degrees, far, [1], 1)
        refused_as_it_was(self, NoOrder, taken_out, degrees, far, [1, 1], 1)

    def test_open_for_drawn_ones(self):
        for ring, told, box in drawn_cases(2, (2, 3)):
            if isinstance(ring.order, (Degrees, Tails)):
                refused_as_it_was(self, NoOrder, taken_out, ring, told, box, 1)
            elif ring.order.takes_out(1) and not is_closed_plainly(ring, told, box):
                refused_as_it_was(self, Open, taken_out, ring, told, box, 1)


class WhatIsHandedInAndTold(unittest.TestCase):
    """Point 2."""

    def test_it_is_the_askers_own(self):
        for told in (["x*y-1", "y^2-1"], ["y"], [], ["1"], ["0", "x", "y"]):
            told_as_own(self, taken_out, LETTERS, texts(LETTERS, *told), [1, 2], 1)

    def test_arguments_by_their_names(self):
        self.assertEqual(taken_out(ring=LETTERS, told=texts(LETTERS, "x", "2*y"), box=[1, 1], k=1), texts(LETTERS, "y"))


if __name__ == "__main__":
    unittest.main()
