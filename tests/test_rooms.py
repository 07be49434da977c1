"""Points 20 to 23, and "idealroom/rooms.py" of the interface."""

import random
import unittest
from fractions import Fraction

from helper import (
    assert_polys, bare_plainly, divides, drawn, drawn_cases, drawn_row, in_box, is_closed_plainly, lead,
    least_base_plainly, made_monic, more, multiplied, orders, rank, refused_as_it_was, rings, room_plainly,
    shifts_in_box, summed_up, texts, tight, told_as_own)
from idealroom.errors import NoBox
from idealroom.fields import Fractions, Rests
from idealroom.orders import Degrees, Order, Tails
from idealroom.rings import Ring
from idealroom.rooms import bare, is_closed, room
from idealroom.texts import read

LETTERS = Ring(2, Fractions(), Order())
DEGREES = Ring(2, Fractions(), Degrees())
ASKED = (room, bare, is_closed)


class Boxes(unittest.TestCase):

    def assert_refused(self, ring, box):
        with self.subTest(box=box):
            for told in ([], [{}], [ring.unknown(0)]):
                for function in ASKED:
                    refused_as_it_was(self, NoBox, function, ring, told, box)

    def assert_taken(self, ring, box):
        with self.subTest(box=box):
            self.assertEqual(room(ring, [], box), [])
            self.assertEqual(bare(ring, [{}], box), [])
            self.assertIs(is_closed(ring, [], box), True)

    def test_a_number_below_0(self):
        for ring in rings():
            for at in range(ring.many):
                for number in (-1, -2, -(10 ** 60)):
                    self.assert_refused(ring, [number if place == at else 1 for place in range(ring.many)])
        self.assert_refused(LETTERS, [-2, -2])
        self.assert_refused(LETTERS, [-1, 5])
        self.assert_refused(LETTERS, [-1, 10 ** 50])

    def test_too_few_or_too_many_numbers(self):
        for ring in rings():
            for length in range(7):
                if length != ring.many:
                    self.assert_refused(ring, [1] * length)
                    self.assert_refused(ring, [0] * length)

    def test_a_product_of_just_100_and_above(self):
        for taken, refused in (
                ([99], [100]), ([9, 9], [9, 10]), ([99, 0], [100, 0]), ([0, 99], [0, 100]), ([1, 49], [1, 50]),
                ([4, 4, 3], [4, 4, 4]), ([0, 0, 99], [0, 1, 50]), ([1, 1, 4, 4], [2, 2, 2, 3]), ([0, 0, 0, 99], [0, 0, 0, 100]),
                ([2, 2, 2, 2], [3, 3, 3, 1]), ([3, 4, 4], [3, 4, 5]), ([0, 0], [10 ** 60, 10 ** 60])):
            ring = Ring(len(taken), Rests(2), Degrees())
            self.assert_taken(ring, taken)
            self.assert_refused(ring, refused)

    def test_the_room_of_a_box_of_100(self):
        ring = Ring(1, Fractions(), Order())
        self.assertEqual(len(room(ring, [ring.unknown(0)], [99])), 99)
        self.assertEqual(bare(ring, [ring.unknown(0)], [99]), [ring.unknown(0)])
        refused_as_it_was(self, NoBox, room, ring, [ring.unknown(0)], [100])


class TheRoom(unittest.TestCase):

    def assert_room(self, ring, told, box, expected):
        """All polynomials as texts; looks at the polynomials of the rows, and at the sums of their multiples."""
        with self.subTest(told=told, box=box):
            told = texts(ring, *told)
            rows = room(ring, told, box)
            self.assertEqual([f for f, multiples in rows], texts(ring, *expected))
            for f, multiples in rows:
                self.assertEqual(summed_up(ring, multiples, told), f)

    def test_written_ones(self):
        self.assert_room(LETTERS, ["x"], [1, 1], ["x*y", "x"])
        self.assert_room(LETTERS, ["x+y"], [1, 1], ["x+y"])
        self.assert_room(LETTERS, ["2*x+2*y"], [2, 1], ["x^2+x*y", "x+y"])
        self.assert_room(LETTERS, ["2*x+2*y"], [2, 2], ["x^2*y+x*y^2", "x^2-y^2", "x*y+y^2", "x+y"])
        self.assert_room(LETTERS, ["x-1", "y-1"], [1, 1], ["x*y-1", "x-1", "y-1"])
        self.assert_room(LETTERS, ["x+y", "x-y"], [1, 1], ["x", "y"])
        self.assert_room(LETTERS, ["3"], [1, 0], ["x", "1"])
        self.assert_room(LETTERS, ["3"], [0, 0], ["1"])
        self.assert_room(Ring(2, Rests(2), Order()), ["x+y", "x-y"], [1, 1], ["x+y"])

    def test_nothing_in_it(self):
        for ring in rings():
            box = [1] * ring.many
            self.assertEqual(room(ring, [], box), [])
            self.assertEqual(room(ring, [{}], box), [])
            self.assertEqual(room(ring, [{}, {}], box), [])
            self.assertEqual(room(ring, [ring.unknown(0)], [0] * ring.many), [])

    def test_what_is_not_in_the_box_by_itself_brings_nothing(self):
        self.assert_room(LETTERS, ["x^2+y", "x^2+x"], [1, 1], [])
        self.assert_room(LETTERS, ["x^2+y", "x"], [1, 1], ["x*y", "x"])
        self.assert_room(LETTERS, ["x*y^2"], [5, 1], [])
        self.assert_room(LETTERS, ["x+y", "y^2"], [1, 1], ["x+y"])

    def test_the_order_of_the_ring(self):
        self.assert_room(LETTERS, ["x-y^2"], [1, 2], ["x-y^2"])
        self.assert_room(DEGREES, ["x-y^2"], [1, 2], ["y^2-x"])
        self.assert_room(DEGREES, ["x-y^2"], [2, 3], ["x*y^3-x^2*y", "x*y^2-x^2", "y^3-x*y", "y^2-x"])
        self.assert_room(Ring(3, Fractions(), Tails()), ["x*z-y^2", "x*z+z"], [1, 2, 1],
                         ["x*y^2*z+y^2*z", "x*y*z+y*z", "y^2+z", "x*z+z"])

    def test_the_multiples_of_noughts_are_nought(self):
        told = texts(LETTERS, "0", "x+y", "0", "x-y")
        for f, multiples in room(LETTERS, told, [2, 2]):
            self.assertEqual(len(multiples), 4)
            self.assertEqual((multiples[0], multiples[2]), ({}, {}))
            self.assertEqual(summed_up(LETTERS, multiples, told), f)

    def test_as_reckoned_plainly(self):
        for ring, told, box in drawn_cases(1):
            self.assertEqual([f for f, multiples in room(ring, told, box)], room_plainly(ring, told, box))

    def test_of_four_unknowns_and_of_greater_boxes(self):
        for ring, told, box in drawn_cases(2, (4,)):
            self.assertEqual([f for f, multiples in room(ring, told, box)], room_plainly(ring, told, box))
        rng = random.Random(3)
        for order in orders(2):
            for field in (Fractions(), Rests(7)):
                ring = Ring(2, field, order)
                told = drawn_row(rng, ring, 2, 4)
                for box in ([9, 9], [2, 30]) if field.prime else ([5, 5], [2, 9]):
                    rows = room(ring, told, box)
                    self.assertEqual([f for f, multiples in rows], room_plainly(ring, told, box))
                    for f, multiples in rows:
                        self.assertEqual(summed_up(ring, multiples, told), f)

    def test_each_sentence_of_point_21(self):
        for ring, told, box in drawn_cases(4, (1, 2, 3, 4)):
            rows = room(ring, told, box)
            self.assertIs(type(rows), list)
            leads = [lead(ring, f) for f, multiples in rows]
            ranks = [rank(ring.order, term) for term in leads]
            self.assertEqual(ranks, sorted(ranks, reverse=True))
            shifts = shifts_in_box(ring, told, box)
            for at, row in enumerate(rows):
                self.assertIs(type(row), tuple)
                f, multiples = row
                assert_polys(self, ring, [f])
                assert_polys(self, ring, multiples)
                self.assertNotEqual(f, {})
                self.assertEqual(f, made_monic(ring, f))
                self.assertTrue(in_box(f, box))
                for place, term in enumerate(leads):
                    self.assertEqual(term in f, place == at)
                self.assertEqual(summed_up(ring, multiples, told), f)
                for place, multiple in enumerate(multiples):
                    for term in multiple:
                        self.assertIn((place, term), shifts)
            for place, term in shifts:
                # Each shift is the sum of the rows times the numbers that it has at their first terms.
                shift = {more(term, part): number for part, number in told[place].items()}
                numbers = [tight(ring, {(0,) * ring.many: shift_number(shift, first)}) for first in leads]
                self.assertEqual(summed_up(ring, numbers, [f for f, multiples in rows]), shift)

    def test_great_numbers(self):
        great = 10 ** 60 - 1
        told = [tight(LETTERS, {(1, 1): great, (0, 0): Fraction(1, great - 1), (1, 0): 3}),
                tight(LETTERS, {(0, 1): Fraction(great, 11), (1, 0): 1 - great})]
        rows = room(LETTERS, told, [2, 2])
        self.assertEqual([f for f, multiples in rows], room_plainly(LETTERS, told, [2, 2]))
        for f, multiples in rows:
            self.assertEqual(summed_up(LETTERS, multiples, told), f)

    def test_a_hundred_told_ones(self):
        rng = random.Random(5)
        for field in (Fractions(), Rests(3)):
            ring = Ring(2, field, Degrees())
            few = drawn_row(rng, ring, 4, 3)
            told = [rng.choice(few) for _ in range(100)]
            rows = room(ring, told, [3, 3])
            self.assertEqual([f for f, multiples in rows], room_plainly(ring, few, [3, 3]))
            for f, multiples in rows:
                self.assertEqual(summed_up(ring, multiples, told), f)


def shift_number(shift, term):
    number = shift.get(term, 0)
    return Fraction(*number) if isinstance(number, tuple) else number


class BareRows(unittest.TestCase):

    def assert_bare(self, ring, told, box, expected):
        with self.subTest(told=told, box=box):
            told = bare(ring, texts(ring, *told), box)
            self.assertIs(type(told), list)
            self.assertEqual(told, texts(ring, *expected))

    def test_written_ones(self):
        self.assert_bare(LETTERS, ["x"], [3, 3], ["x"])
        self.assert_bare(LETTERS, ["x+y"], [2, 2], ["x+y"])
        self.assert_bare(LETTERS, ["x^2", "y"], [2, 2], ["x^2", "y"])
        self.assert_bare(LETTERS, ["x-1", "y-1"], [1, 1], ["x-1", "y-1"])
        self.assert_bare(LETTERS, ["x*y-1", "y^2-1"], [1, 1], ["x*y-1"])
        self.assert_bare(LETTERS, ["x*y-1", "y^2-1"], [1, 2], ["x-y", "y^2-1"])
        self.assert_bare(DEGREES, ["x^2+y", "x*y-1"], [2, 2], ["x^2+y", "x*y-1", "y^2+x"])
        self.assert_bare(LETTERS, ["x", "1"], [2, 2], ["1"])
        self.assert_bare(LETTERS, [], [2, 2], [])
        self.assert_bare(LETTERS, ["0"], [2, 2], [])
        self.assert_bare(LETTERS, ["x^5"], [2, 2], [])

    def test_as_reckoned_plainly(self):
        for ring, told, box in drawn_cases(6, (1, 2, 3, 4)):
            found = bare(ring, told, box)
            assert_polys(self, ring, found)
            self.assertEqual(found, bare_plainly(ring, told, box))

    def test_they_are_the_rows_that_no_other_goes_into(self):
        for ring, told, box in drawn_cases(7):
            polys = [f for f, multiples in room(ring, told, box)]
            leads = [lead(ring, f) for f in polys]
            self.assertEqual(bare(ring, told, box), [
                f for f, term in zip(polys, leads)
                if [other for other in leads if divides(other, term)] == [term]])


class Closed(unittest.TestCase):

    def assert_closed(self, ring, told, box, expected):
        with self.subTest(told=told, box=box):
            told = texts(ring, *told)
            self.assertIs(is_closed(ring, told, box), expected)
            self.assertIs(is_closed_plainly(ring, told, box), expected)

    def test_written_ones(self):
        self.assert_closed(LETTERS, ["x"], [1, 0], True)
        self.assert_closed(LETTERS, ["x"], [0, 0], False)
        self.assert_closed(LETTERS, ["x", "y"], [1, 0], False)
        self.assert_closed(LETTERS, ["x", "y"], [1, 1], True)
        self.assert_closed(LETTERS, ["x+y", "x-y"], [1, 1], True)
        self.assert_closed(LETTERS, ["x*y-1", "y^2-1"], [1, 1], False)
        self.assert_closed(LETTERS, ["x*y-1", "y^2-1"], [0, 2], False)
        self.assert_closed(LETTERS, ["x*y-1", "y^2-1"], [1, 2], True)
        self.assert_closed(LETTERS, [], [0, 0], True)
        self.assert_closed(LETTERS, ["0", "0"], [0, 0], True)
        self.assert_closed(LETTERS, ["7"], [0, 0], True)
        self.assert_closed(LETTERS, ["7", "x^9"], [0, 0], True)

    def test_a_told_one_outside_the_box(self):
        self.assert_closed(LETTERS, ["x", "x^9"], [1, 1], True)
        self.assert_closed(LETTERS, ["x", "x^9+y"], [1, 1], False)
        self.assert_closed(LETTERS, ["y^9+x", "x"], [1, 1], False)
        self.assert_closed(LETTERS, ["y^9"], [1, 1], False)
        self.assert_closed(LETTERS, ["y", "y^9+y*x^4"], [1, 1], True)

    def test_told_ones_of_which_several_terms_fall_away_at_once(self):
        self.assert_closed(LETTERS, ["x^2+x+y", "x^2+x", "y"], [2, 1], True)
        self.assert_closed(LETTERS, ["x^9+x^8+x+y", "x+1", "y-1"], [2, 1], True)
        self.assert_closed(LETTERS, ["x^9+x^8+x-y", "x+1", "y-1"], [2, 1], False)
        self.assert_closed(LETTERS, ["x^2+x+y+1", "x^2+x", "y"], [2, 0], False)

    def test_it_hangs_on_the_order_and_the_box(self):
        told = ["x^2-x*y^2", "x^2*y"]
        for box, letters, degrees in (([2, 2], False, False), ([2, 3], True, False), ([3, 2], False, True),
                                      ([3, 3], True, True)):
            self.assert_closed(LETTERS, told, box, letters)
            self.assert_closed(DEGREES, told, box, degrees)

    def test_drawn_ones(self):
        answers = []
        for seed in (8, 9):
            for ring, told, box in drawn_cases(seed, (1, 2, 3)):
                answers.append(is_closed(ring, told, box))
                self.assertIs(answers[-1], is_closed_plainly(ring, told, box))
        self.assertGreater(answers.count(True), 20)
        self.assertGreater(answers.count(False), 20)

    def test_where_it_is_closed_the_bare_rows_are_a_base_of_all_sums(self):
        for ring, told, box in drawn_cases(10, (1, 2)):
            if is_closed(ring, told, box):
                found = bare(ring, told, box)
                leads = [lead(ring, f) for f in found]
                self.assertEqual(leads, [lead(ring, f) for f in least_base_plainly(ring, told)])

    def test_what_is_closed_in_a_box_is_closed_in_each_greater_one(self):
        rng = random.Random(11)
        for ring, told, box in drawn_cases(12):
            if is_closed(ring, told, box):
                greater = list(box)
                greater[rng.randrange(ring.many)] += 1
                self.assertIs(is_closed(ring, told, greater), True)
                self.assertIs(is_closed(ring, told, [number + 1 for number in box]), True)


class TheSameRoom(unittest.TestCase):

    def test_in_another_order_doubled_with_noughts_or_multiplied_by_numbers(self):
        rng = random.Random(13)
        for ring, told, box in drawn_cases(14, (1, 2, 3)):
            polys = [f for f, multiples in room(ring, told, box)]
            scales = [tight(ring, {(0,) * ring.many: rng.choice([1, 1, -1, Fraction(5, 11), -25])}) for _ in told]
            scaled = [multiplied(ring, scale, f) for scale, f in zip(scales, told)]
            mixed = scaled + [{}] + told + [{}]
            rng.shuffle(mixed)
            for other in (told[::-1], told + told, [{}] + told + [{}], scaled, mixed):
                rows = room(ring, other, box)
                self.assertEqual([f for f, multiples in rows], polys)
                for f, multiples in rows:
                    self.assertEqual(summed_up(ring, multiples, other), f)
                self.assertEqual(bare(ring, other, box), bare(ring, told, box))
                self.assertIs(is_closed(ring, other, box), is_closed(ring, told, box))

    def test_a_told_one_that_is_another_ones_multiple_by_a_term(self):
        told = texts(LETTERS, "x+1", "x*y+y", "2*x*y+2*y", "3*x+3")
        rows = room(LETTERS, told, [2, 2])
        self.assertEqual([f for f, multiples in rows], [f for f, multiples in room(LETTERS, told[:1], [2, 2])])
        for f, multiples in rows:
            self.assertEqual(summed_up(LETTERS, multiples, told), f)


class WhatIsHandedInAndTold(unittest.TestCase):
    """Point 2."""

    def test_drawn_ones(self):
        for ring, told, box in drawn_cases(15, (1, 2)):
            for function in ASKED:
                told_as_own(self, function, ring, told + [{}], box)

    def test_where_what_is_told_equals_what_was_handed_in(self):
        for written in ([], ["x"], ["x", "y"], ["1"], ["0", "0", "y"]):
            for function in ASKED:
                told_as_own(self, function, LETTERS, texts(LETTERS, *written), [1, 1])

    def test_the_same_dict_at_several_places(self):
        f = read(LETTERS, "x+y")
        rows = room(LETTERS, [f, f], [1, 1])
        self.assertEqual([g for g, multiples in rows], [f])
        self.assertEqual(summed_up(LETTERS, rows[0][1], [f, f]), f)
        self.assertEqual(f, read(LETTERS, "x+y"))

    def test_arguments_by_their_names(self):
        told = texts(LETTERS, "x")
        self.assertEqual(room(ring=LETTERS, told=told, box=[1, 0]), [(told[0], texts(LETTERS, "1"))])
        self.assertEqual(bare(ring=LETTERS, told=told, box=[1, 0]), told)
        self.assertIs(is_closed(ring=LETTERS, told=told, box=[1, 0]), True)

    def test_asked_of_drawn_polynomials_alone(self):
        rng = random.Random(16)
        for ring in rings((2,)):
            f = drawn(rng, ring)
            if f:
                self.assertIs(is_closed(ring, [f], [2, 2]), True)
                self.assertEqual(bare(ring, [f], [2, 2]), [made_monic(ring, f)])


if __name__ == "__main__":
    unittest.main()
