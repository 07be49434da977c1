"""Points 28 and 29, and "idealroom/answers.py" of the interface."""

import itertools
import random
import unittest

from helper import (
    drawn, drawn_row, is_closed_plainly, least_base_plainly, loose, multiplied, orders, refused_as_it_was, rest_of,
    rings, texts, tight, told_as_own)
from idealroom.answers import nought_at_all, same_answers
from idealroom.errors import NoBox, NoRing, Open
from idealroom.fields import Fractions, Rests
from idealroom.orders import Degrees, Order
from idealroom.rings import Ring
from idealroom.texts import read

LINE = Ring(1, Fractions(), Order())
PLANE = Ring(2, Fractions(), Order())


def wider(ring, told, poly):
    """The ring and row of point 28."""
    wide = Ring(ring.many + 1, ring.field, Degrees())
    row = [{term + (0,): number for term, number in f.items()} for f in told]
    last = {term + (1,): -number for term, number in loose(poly).items()}
    last[(0,) * wide.many] = 1
    return wide, row + [tight(wide, last)]


def some_power_is_within(ring, told, poly, most=6):
    base, power = least_base_plainly(ring, told), tight(ring, {(0,) * ring.many: 1})
    for _ in range(most):
        power = rest_of(ring, multiplied(ring, power, poly), base)
        if not power:
            return True
    return False


class NoughtAtAll(unittest.TestCase):

    def assert_answer(self, ring, told, box, poly, expected):
        with self.subTest(told=told, poly=poly):
            told, poly = texts(ring, *told), read(ring, poly)
            self.assertIs(nought_at_all(ring, told, box, poly), expected)
            self.assertIs(some_power_is_within(ring, told, poly), expected)

    def test_a_polynomial_one_of_whose_powers_is_within(self):
        self.assert_answer(LINE, ["x^2"], [2, 2], "x", True)
        self.assert_answer(LINE, ["x^3"], [4, 4], "x", True)
        self.assert_answer(LINE, ["x^2-2*x+1"], [4, 4], "x-1", True)
        self.assert_answer(LINE, ["x"], [1, 1], "x", True)
        self.assert_answer(PLANE, ["x^2", "y^2"], [3, 3, 3], "x+y", True)
        self.assert_answer(PLANE, ["x*y-1", "y^2-1"], [2, 3, 2], "x-y", True)

    def test_a_polynomial_with_none(self):
        self.assert_answer(LINE, ["x^2"], [3, 3], "x-1", False)
        self.assert_answer(LINE, ["x^2-x"], [4, 3], "x", False)
        self.assert_answer(LINE, ["x^2-x"], [4, 3], "1", False)
        self.assert_answer(PLANE, ["x^2"], [3, 1, 3], "y", False)
        self.assert_answer(PLANE, ["x^2+y^2"], [2, 2, 2], "1", False)

    def test_nought_and_rows_without_answers(self):
        self.assert_answer(LINE, ["x"], [1, 0], "0", True)
        self.assert_answer(LINE, [], [0, 0], "0", True)
        self.assert_answer(LINE, [], [1, 1], "x", False)
        self.assert_answer(LINE, ["0"], [1, 1], "x", False)
        self.assert_answer(LINE, [], [0, 1], "1", False)
        self.assert_answer(LINE, ["1"], [1, 1], "x", True)
        self.assert_answer(LINE, ["x", "x-1"], [1, 1], "x^9-5", True)

    def test_it_is_told_by_the_wider_row_though_the_row_is_not_in_the_box(self):
        # The number of the box for x keeps x^9 out, but the wider row shows 1 all the same.
        self.assertIs(nought_at_all(LINE, texts(LINE, "x^9", "x"), [1, 1], read(LINE, "x")), True)
        self.assertIs(nought_at_all(LINE, texts(LINE, "x^9", "1"), [0, 0], read(LINE, "x")), True)

    def test_the_answers_may_lie_in_a_wider_field(self):
        # x^2+1 has no rest of 3 at which it is nought, and yet x is not nought at all its answers.
        ring = Ring(1, Rests(3), Order())
        self.assert_answer(ring, ["x^2+1"], [4, 4], "x", False)
        self.assert_answer(ring, ["x^2+1"], [4, 4], "x^2+1", True)
        self.assert_answer(LINE, ["x^2+1"], [4, 4], "x-1", False)

    def test_the_rings_own_order_counts_nothing(self):
        for many in (1, 2):
            for order in orders(many):
                for field in (Fractions(), Rests(2)):
                    ring = Ring(many, field, order)
                    x = ring.unknown(0)
                    square = multiplied(ring, x, x)
                    self.assertIs(nought_at_all(ring, [square], [2] + [0] * (many - 1) + [2], x), True)
                    refused_as_it_was(self, Open, nought_at_all, ring, [square], [2] + [0] * (many - 1) + [1], x)

    def test_the_wider_row_has_the_order_by_degrees(self):
        # By tails, or by letters, each of these would be closed where by degrees it is not, or the other way round.
        space = Ring(3, Fractions(), Order())
        self.assert_answer(PLANE, ["x^2"], [2, 1, 1], "x*y+y", False)
        self.assert_answer(space, ["x^2+y"], [2, 2, 1, 2], "x*y*z+1", False)
        self.assert_answer(space, ["z^2"], [2, 2, 2, 1], "x*y*z+x", False)
        for ring, told, box, poly in (
                (PLANE, ["x+y^2"], [1, 3, 1], "x*y"), (space, ["x*y*z-z"], [1, 1, 1, 2], "y*z"),
                (space, ["y^2+y", "x*y*z^2"], [2, 2, 2, 2], "x*y*z-x"), (space, ["x*z-y^2"], [1, 2, 2, 2], "x-y*z"),
                (space, ["x^2*z^2+x*y^2*z"], [2, 2, 2, 1], "z")):
            for order in orders(ring.many):
                other = Ring(ring.many, Fractions(), order)
                refused_as_it_was(self, Open, nought_at_all, other, texts(ring, *told), box, read(ring, poly))

    def test_drawn_ones_by_the_wider_row(self):
        rng = random.Random(1)
        answers = []
        for ring in rings((1, 2, 3)):
            for _ in range(3):
                box = [rng.randint(1, {1: 4, 2: 3, 3: 2}[ring.many]) for _ in range(ring.many + 1)]
                told = drawn_row(rng, ring, rng.randint(0, 2), 2, [min(2, bound) for bound in box[:-1]])
                poly = drawn(rng, ring, 2, [1] * ring.many)
                wide, row = wider(ring, told, poly)
                if not is_closed_plainly(wide, row, box):
                    answers.append(Open)
                    refused_as_it_was(self, Open, nought_at_all, ring, told, box, poly)
                else:
                    answers.append(least_base_plainly(wide, row) == [tight(wide, {(0,) * wide.many: 1})])
                    self.assertIs(nought_at_all(ring, told, box, poly), answers[-1])
                    if answers[-1]:
                        self.assertIs(some_power_is_within(ring, told, poly, 12), True)
        for answer in (True, False, Open):
            self.assertGreater(answers.count(answer), 8)

    def test_what_is_nought_at_all_is_nought_at_each_point(self):
        rng = random.Random(2)
        for prime in (2, 3):
            ring = Ring(2, Rests(prime), Order())
            for _ in range(30):
                told, poly = drawn_row(rng, ring, 2, 2, (1, 1)), drawn(rng, ring, 2, (1, 1))
                try:
                    answer = nought_at_all(ring, told, [3, 3, 3], poly)
                except Open:
                    continue
                if answer:
                    for point in itertools.product(range(prime), repeat=2):
                        if not any(self.value(prime, f, point) for f in told):
                            self.assertEqual(self.value(prime, poly, point), 0)

    def value(self, prime, f, point):
        return sum(number * point[0] ** term[0] * point[1] ** term[1] for term, number in f.items()) % prime


class SameAnswers(unittest.TestCase):

    def assert_answer(self, ring, ones, others, box, expected):
        with self.subTest(ones=ones, others=others):
            ones, others = texts(ring, *ones), texts(ring, *others)
            self.assertIs(same_answers(ring, ones, others, box), expected)
            self.assertIs(same_answers(ring, others, ones, box), expected)

    def test_written_ones(self):
        self.assert_answer(LINE, ["x^2"], ["x"], [2, 2], True)
        self.assert_answer(LINE, ["x^3"], ["x^2"], [6, 4], True)
        self.assert_answer(LINE, ["x^2-x"], ["x"], [5, 5], False)
        self.assert_answer(LINE, ["x"], ["x-1"], [2, 2], False)
        self.assert_answer(PLANE, ["x*y", "x"], ["x"], [2, 2, 2], True)
        self.assert_answer(PLANE, ["x^2", "y^2"], ["x", "y"], [2, 2, 2], True)
        self.assert_answer(PLANE, ["x", "y"], ["x"], [1, 1, 1], False)

    def test_asked_both_ways(self):
        # Of each of these pairs the one row is nought at the other's answers, but not the other way round.
        self.assertIs(same_answers(PLANE, texts(PLANE, "x"), texts(PLANE, "x", "y"), [1, 1, 1]), False)
        self.assertIs(same_answers(PLANE, texts(PLANE, "x", "y"), texts(PLANE, "x"), [1, 1, 1]), False)
        self.assertIs(same_answers(LINE, texts(LINE, "x"), [], [1, 1]), False)
        self.assertIs(same_answers(LINE, [], texts(LINE, "x"), [1, 1]), False)

    def test_empty_rows_and_noughts(self):
        self.assert_answer(LINE, [], [], [0, 0], True)
        self.assert_answer(LINE, [], ["0", "0"], [0, 0], True)
        self.assert_answer(LINE, ["1"], ["x", "x-1"], [1, 1], True)
        self.assert_answer(LINE, ["1"], ["5"], [0, 0], True)
        self.assert_answer(LINE, ["1"], [], [0, 1], False)

    def test_open_where_any_question_is_refused_so(self):
        # x is asked of x^3 (Open in this box), whatever the other questions answer.
        for ones, others in ((["x^3"], ["x"]), (["x^3"], ["x-1", "x"]), (["x^3", "0"], ["x", "x-1"])):
            ones, others = texts(LINE, *ones), texts(LINE, *others)
            refused_as_it_was(self, Open, same_answers, LINE, ones, others, [2, 2])
            refused_as_it_was(self, Open, same_answers, LINE, others, ones, [2, 2])

    def test_open_though_another_answer_is_false_already(self):
        # 1 is asked of x (False), and x of 1 (True); x^9 of x is Open: the box does not hold 1-u*x^9.
        ones, others = texts(LINE, "x"), texts(LINE, "1", "x^9+1")
        self.assertIs(same_answers(LINE, ones, others[:1], [1, 1]), False)
        refused_as_it_was(self, Open, same_answers, LINE, ones, others, [1, 1])
        refused_as_it_was(self, Open, same_answers, LINE, ones, others[::-1], [1, 1])
        refused_as_it_was(self, Open, same_answers, LINE, others, ones, [1, 1])

    def test_open_in_the_second_round_though_the_first_one_answers_false(self):
        for one, other in (("x", "x^2-1"), ("x-1", "x^2+1"), ("x-1", "x^2+x")):
            one, other = texts(LINE, one), texts(LINE, other)
            self.assertIs(nought_at_all(LINE, one, [2, 1], other[0]), False)
            refused_as_it_was(self, Open, nought_at_all, LINE, other, [2, 1], one[0])
            refused_as_it_was(self, Open, same_answers, LINE, one, other, [2, 1])
            refused_as_it_was(self, Open, same_answers, LINE, other, one, [2, 1])

    def test_drawn_ones_question_by_question(self):
        rng = random.Random(3)
        answers = []
        for ring in rings((1, 2)):
            for _ in range(3):
                box = [rng.randint(1, 4 if ring.many == 1 else 2) for _ in range(ring.many + 1)]
                ones = drawn_row(rng, ring, rng.randint(0, 2), 2, [rng.randint(1, 2)] * ring.many)
                others = rng.choice([ones[::-1] + [{}], drawn_row(rng, ring, rng.randint(0, 2), 2, [1] * ring.many)])
                asked = [self.question(ring, ones, box, f) for f in others]
                asked += [self.question(ring, others, box, f) for f in ones]
                answers.append(Open if Open in asked else all(asked))
                if answers[-1] is Open:
                    refused_as_it_was(self, Open, same_answers, ring, ones, others, box)
                else:
                    self.assertIs(same_answers(ring, ones, others, box), answers[-1])
        for answer in (True, False, Open):
            self.assertGreater(answers.count(answer), 8)

    def question(self, ring, told, box, poly):
        wide, row = wider(ring, told, poly)
        if not is_closed_plainly(wide, row, box):
            return Open
        return least_base_plainly(wide, row) == [tight(wide, {(0,) * wide.many: 1})]


class Refusals(unittest.TestCase):

    def test_a_ring_of_four_unknowns(self):
        for field in (Fractions(), Rests(2)):
            ring = Ring(4, field, Degrees())
            x = ring.unknown(0)
            for box in ([1] * 5, [1] * 4, [], [-1] * 5, [100] * 5):
                for rows in (([], []), ([x], [x]), ([{}], [])):
                    refused_as_it_was(self, NoRing, same_answers, ring, rows[0], rows[1], box)
                    refused_as_it_was(self, NoRing, nought_at_all, ring, rows[0], box, x)
                    refused_as_it_was(self, NoRing, nought_at_all, ring, rows[0], box, {})

    def test_no_box_whatever_the_rows_are(self):
        for many in (1, 2, 3):
            ring = Ring(many, Fractions(), Order())
            far, x = {(200,) * many: (1, 1)}, ring.unknown(0)
            for box in ([1] * many, [1] * (many + 2), [], [0] * many + [-1], [-1] + [0] * many, [100] + [0] * many,
                        [0] * many + [100]):
                for rows in (([], []), ([x], [x]), ([far], [{}]), ([], [far])):
                    refused_as_it_was(self, NoBox, same_answers, ring, rows[0], rows[1], box)
                    refused_as_it_was(self, NoBox, nought_at_all, ring, rows[0], box, x)
                    refused_as_it_was(self, NoBox, nought_at_all, ring, rows[0], box, {})

    def test_a_box_of_just_100(self):
        self.assertIs(nought_at_all(LINE, texts(LINE, "x^2"), [9, 9], read(LINE, "x")), True)
        refused_as_it_was(self, NoBox, nought_at_all, LINE, texts(LINE, "x^2"), [9, 10], read(LINE, "x"))

    def test_open(self):
        refused_as_it_was(self, Open, nought_at_all, LINE, texts(LINE, "x^9"), [1, 1], read(LINE, "x"))
        refused_as_it_was(self, Open, nought_at_all, LINE, texts(LINE, "x^2"), [2, 0], read(LINE, "x"))
        refused_as_it_was(self, Open, nought_at_all, LINE, [], [0, 1], read(LINE, "x"))


class WhatIsHandedInAndTold(unittest.TestCase):
    """Point 2."""

    def test_it_stays_as_it_was(self):
        for told in ([], ["x^2"], ["x^2", "0", "x"], ["1"]):
            told = texts(LINE, *told)
            told_as_own(self, nought_at_all, LINE, told, [2, 2], read(LINE, "x"))
            told_as_own(self, same_answers, LINE, told, told[::-1], [6, 6])

    def test_arguments_by_their_names(self):
        told = texts(LINE, "x^2")
        self.assertIs(nought_at_all(ring=LINE, told=told, box=[2, 2], poly=read(LINE, "x")), True)
        self.assertIs(same_answers(ring=LINE, ones=told, others=texts(LINE, "x"), box=[2, 2]), True)


if __name__ == "__main__":
    unittest.main()
