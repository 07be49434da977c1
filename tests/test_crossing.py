"""Points 16, 17 and 18, and "idealroom/crossing.py" of the interface."""

import itertools
import random
import unittest
from fractions import Fraction

from helper import (
    any_base, assert_poly, crossed_plainly, divides, drawn, drawn_row, is_base_plainly, joined, lead, multiplied,
    orders, rank, refused_as_it_was, rest_of, rings, texts, tight, told_as_own)
from idealroom.crossing import crossed, is_base, pairs
from idealroom.errors import NoLead
from idealroom.fields import Fractions, Rests
from idealroom.orders import Degrees, Order, Tails, Weights
from idealroom.polys import scaled
from idealroom.rings import Ring
from idealroom.texts import read

LETTERS = Ring(2, Fractions(), Order())
DEGREES = Ring(2, Fractions(), Degrees())
SPACE = Ring(3, Rests(7), Degrees())


def pairs_plainly(ring, row):
    """Point 17, sentence by sentence."""
    firsts = {at: lead(ring, f) for at, f in enumerate(row) if f}
    every = list(itertools.combinations(sorted(firsts), 2))

    def meets(pair):
        return joined(firsts[pair[0]], firsts[pair[1]])

    def comes_ahead(pair, other):
        one, two = rank(ring.order, meets(pair)), rank(ring.order, meets(other))
        return one < two or (meets(pair) == meets(other) and pair < other)

    def is_to_be_looked_at(pair):
        i, j = pair
        if not any(a > 0 and b > 0 for a, b in zip(firsts[i], firsts[j])):
            return False
        for k in firsts:
            if k not in pair and divides(firsts[k], meets(pair)):
                if all(comes_ahead(tuple(sorted((place, k))), pair) for place in pair):
                    return False
        return True

    found = []
    for pair in every:
        if is_to_be_looked_at(pair):
            behind = [at for at, other in enumerate(found) if comes_ahead(pair, other)]
            found.insert(behind[0] if behind else len(found), pair)
    return found


class Crossed(unittest.TestCase):

    def assert_crossed(self, ring, f, g, text):
        with self.subTest(f=f, g=g):
            self.assertEqual(crossed(ring, read(ring, f), read(ring, g)), read(ring, text))

    def test_written_ones(self):
        self.assert_crossed(LETTERS, "x^2*y+1", "x*y^2+x", "y-x^2")
        self.assert_crossed(LETTERS, "x*y^2+x", "x^2*y+1", "x^2-y")
        self.assert_crossed(LETTERS, "2*x+y", "3*x-1", "1/2*y+1/3")
        self.assert_crossed(LETTERS, "x+1", "y+2", "y-2*x")
        self.assert_crossed(LETTERS, "x", "y", "0")
        self.assert_crossed(LETTERS, "x+y", "2*x+2*y", "0")
        self.assert_crossed(LETTERS, "5", "x+1", "-1")
        self.assert_crossed(LETTERS, "x+1", "5", "1")
        self.assert_crossed(LETTERS, "5", "-7", "0")
        self.assert_crossed(SPACE, "2*x*y+z", "3*y*z+x", "4*z^2-5*x^2")

    def test_the_first_terms_hang_on_the_order(self):
        f, g = "x+y^2", "x*y+1"
        self.assert_crossed(LETTERS, f, g, "y^3-1")
        self.assert_crossed(DEGREES, f, g, "x^2-y")
        self.assert_crossed(Ring(2, Fractions(), Tails()), f, g, "x^2-y")
        self.assert_crossed(Ring(2, Fractions(), Weights([2, 1])), f, g, "y^3-1")
        self.assert_crossed(Ring(2, Fractions(), Weights([1, 1])), f, g, "x^2-y")

    def test_the_second_is_taken_from_the_first(self):
        rng = random.Random(1)
        for ring in rings((1, 2, 3)):
            f, g = drawn(rng, ring), drawn(rng, ring)
            if f and g:
                told = crossed(ring, f, g)
                assert_poly(self, ring, told)
                self.assertEqual(told, crossed_plainly(ring, f, g))
                unit = (0,) * ring.many
                self.assertEqual(crossed(ring, g, f), scaled(ring, ring.field.made(-1), unit, told))
                self.assertEqual(crossed(ring, f, f), {})

    def test_nought_on_either_side(self):
        for ring in rings():
            f = ring.unknown(0)
            refused_as_it_was(self, NoLead, crossed, ring, {}, f)
            refused_as_it_was(self, NoLead, crossed, ring, f, {})
            refused_as_it_was(self, NoLead, crossed, ring, {}, {})


class Pairs(unittest.TestCase):

    def assert_pairs(self, ring, row, expected):
        with self.subTest(row=row):
            row = texts(ring, *row)
            told = pairs(ring, row)
            self.assertIs(type(told), list)
            for pair in told:
                self.assertIs(type(pair), tuple)
                self.assertEqual([type(place) for place in pair], [int, int])
            self.assertEqual(told, expected)
            self.assertEqual(pairs_plainly(ring, row), expected)

    def test_rows_without_pairs(self):
        for ring in rings():
            x = ring.unknown(0)
            for row in ([], [{}], [{}, {}], [x], [x, {}], [{}, x, {}]):
                self.assertEqual(pairs(ring, row), [])

    def test_first_terms_that_stand_apart(self):
        self.assert_pairs(LETTERS, ["x^2+1", "y+1"], [])
        self.assert_pairs(LETTERS, ["x+y", "y", "x"], [(0, 2)])
        self.assert_pairs(LETTERS, ["1", "x"], [])
        self.assert_pairs(LETTERS, ["2", "3"], [])
        self.assert_pairs(LETTERS, ["x*y", "y"], [(0, 1)])

    def test_noughts_are_passed_over_and_keep_their_places(self):
        self.assert_pairs(LETTERS, ["0", "x*y", "0", "x^2", "0"], [(1, 3)])
        self.assert_pairs(LETTERS, ["x*y", "0", "x^2", "y^2*x"], [(0, 3), (0, 2)])

    def test_the_pair_whose_meeting_goes_later_comes_ahead(self):
        self.assert_pairs(LETTERS, ["x^2*y", "x*y^3", "x^3"], [(0, 1), (0, 2)])
        self.assert_pairs(LETTERS, ["x^3*y", "x^2*y^2", "x*y^3"], [(1, 2), (0, 1)])
        self.assert_pairs(LETTERS, ["x*y^3", "x^2*y^2", "x^3*y"], [(0, 1), (1, 2)])

    def test_the_order_of_the_pairs_hangs_on_the_rings_order(self):
        row = ["y*z^3", "x*z", "y*x"]
        for order, expected in (
                (Order(), [(1, 2), (0, 1)]), (Degrees(), [(1, 2), (0, 1)]), (Tails(), [(1, 2), (0, 1)]),
                (Weights([5, 0, 1]), [(1, 2), (0, 1)]), (Weights([0, 0, 0]), [(1, 2), (0, 1)])):
            self.assert_pairs(Ring(3, Fractions(), order), row, expected)
        row = ["x*y^3", "y^4", "x^2"]
        for order, expected in (
                (Order(), [(0, 1), (0, 2)]), (Degrees(), [(0, 1), (0, 2)]), (Weights([0, 1]), [(0, 2), (0, 1)]),
                (Weights([1, 0]), [(0, 1), (0, 2)])):
            self.assert_pairs(Ring(2, Fractions(), order), row, expected)

    def test_where_meetings_are_the_same_the_lesser_tuple_comes_ahead(self):
        self.assert_pairs(LETTERS, ["x*y", "x*y", "x*y"], [(0, 1), (0, 2)])
        self.assert_pairs(LETTERS, ["x+1", "x+2", "x+3", "x+4"], [(0, 1), (0, 2), (0, 3)])
        self.assert_pairs(SPACE, ["x*y", "y*z", "x*z"], [(0, 1), (0, 2)])
        self.assert_pairs(SPACE, ["x^2*y", "x*y^2", "x^2*y^2"], [(0, 1), (0, 2)])

    def test_a_third_place_lets_a_pair_by(self):
        self.assert_pairs(LETTERS, ["x^2*y", "x*y", "x*y^2"], [(1, 2), (0, 1)])
        self.assert_pairs(LETTERS, ["x^3", "x^2", "x"], [(1, 2), (0, 1)])
        self.assert_pairs(LETTERS, ["x", "x^2", "x^3"], [(0, 1), (0, 2)])

    def test_a_third_place_that_is_nought_lets_none_by(self):
        self.assert_pairs(LETTERS, ["x^2*y", "0", "x*y^2"], [(0, 2)])

    def test_a_third_place_by_which_but_one_pair_comes_ahead(self):
        # The third term goes into each of the meetings here, but for the pairs told not both pairs with it come ahead.
        self.assert_pairs(LETTERS, ["x^2", "x^2", "x"], [(0, 1), (0, 2)])
        self.assert_pairs(LETTERS, ["x^2", "x", "x^2"], [(0, 1), (0, 2)])
        self.assert_pairs(LETTERS, ["x", "x^2", "x^2"], [(0, 1), (0, 2)])
        self.assert_pairs(LETTERS, ["x*y", "x*y^2", "x^2*y^2"], [(0, 1), (0, 2)])
        self.assert_pairs(LETTERS, ["x*y^2", "x^2*y", "x^2*y^2"], [(0, 1), (0, 2)])
        self.assert_pairs(LETTERS, ["x^2*y^2", "x*y^2", "x^2*y"], [(0, 1), (0, 2)])

    def test_a_pair_that_stands_apart_still_lets_others_by(self):
        self.assert_pairs(SPACE, ["x", "y", "x*y"], [(0, 2)])
        self.assert_pairs(SPACE, ["x*z", "y*z", "x*y*z", "z"], [(1, 3), (0, 3), (0, 2)])

    def test_drawn_rows(self):
        rng = random.Random(2)
        for ring in rings((1, 2, 3, 4)):
            for length in (3, 4, 6, 8):
                row = drawn_row(rng, ring, length, 2, (3,) * ring.many)
                self.assertEqual(pairs(ring, row), pairs_plainly(ring, row))

    def test_every_row_of_three_small_terms(self):
        terms = [(a, b) for a in range(3) for b in range(3)]
        for order in (Order(), Tails()):
            ring = Ring(2, Rests(2), order)
            for firsts in itertools.product(terms, repeat=3):
                row = [{term: 1} for term in firsts]
                self.assertEqual(pairs(ring, row), pairs_plainly(ring, row))

    def test_rows_of_terms_of_three_unknowns(self):
        rng = random.Random(3)
        for order in orders(3):
            ring = Ring(3, Rests(2), order)
            for _ in range(60):
                row = [{tuple(rng.randint(0, 2) for _ in range(3)): 1} for _ in range(6)]
                self.assertEqual(pairs(ring, row), pairs_plainly(ring, row))


class Bases(unittest.TestCase):

    def assert_base(self, ring, row, expected):
        with self.subTest(row=row):
            row = texts(ring, *row)
            self.assertIs(is_base(ring, row), expected)
            self.assertIs(is_base_plainly(ring, row), expected)

    def test_rows_without_pairs(self):
        for ring in rings():
            x = ring.unknown(0)
            for row in ([], [{}], [{}, {}], [x], [{}, x]):
                self.assertIs(is_base(ring, row), True)

    def test_written_ones(self):
        self.assert_base(LETTERS, ["x", "y"], True)
        self.assert_base(LETTERS, ["x+y", "x-y"], False)
        self.assert_base(LETTERS, ["x+y", "x-y", "y"], True)
        self.assert_base(LETTERS, ["x+y", "x-y", "2*y"], True)
        self.assert_base(LETTERS, ["x*y-1", "y^2-1"], False)
        self.assert_base(LETTERS, ["x*y-1", "y^2-1", "x-y"], True)
        self.assert_base(LETTERS, ["x^2+1", "y^2+1"], True)
        self.assert_base(LETTERS, ["x", "x+1"], False)
        self.assert_base(LETTERS, ["x", "x+1", "7"], True)
        self.assert_base(LETTERS, ["x*y", "x*y^2", "x^2"], True)
        self.assert_base(LETTERS, ["0", "x+y", "0", "x-y"], False)
        self.assert_base(LETTERS, ["0", "x+y", "0", "y"], True)
        self.assert_base(LETTERS, ["x+y", "2*x+2*y", "-1/3*x-1/3*y"], True)

    def test_pairs_of_which_several_terms_fall_away_at_once(self):
        self.assert_base(LETTERS, ["x*y+5*x", "x^2-2*x+5*y^2", "y^3+5*y^2"], True)
        self.assert_base(DEGREES, ["x*y+5*y^2", "x*y^2-10*x^2+4*x*y", "y^3+2*x^2+4*y^2", "x^3-250*x^2-500*y^2"], True)
        self.assert_base(LETTERS, ["x*y+5*x", "x^2-2*x+5*y^2", "y^3+5*y^2+1"], False)

    def test_it_hangs_on_the_order(self):
        row = ["x-y^2", "y^3-1", "x*y-1"]
        self.assert_base(LETTERS, row, True)
        self.assert_base(DEGREES, row, False)
        self.assert_base(DEGREES, ["y^2-x", "x*y-1", "x^2-y"], True)
        self.assert_base(Ring(2, Fractions(), Weights([2, 1])), row, True)
        self.assert_base(Ring(2, Fractions(), Weights([1, 3])), row, False)

    def test_it_hangs_on_the_field(self):
        row = ["x+y", "x-y"]
        self.assert_base(Ring(2, Rests(2), Order()), row, True)
        self.assert_base(Ring(2, Rests(3), Order()), row, False)

    def test_drawn_rows_and_the_bases_of_them(self):
        rng = random.Random(4)
        for ring in rings((1, 2, 3)):
            row = drawn_row(rng, ring, rng.randint(1, 3), 2)
            self.assertIs(is_base(ring, row), is_base_plainly(ring, row))
            base = any_base(ring, row)
            if len(base) < 9:
                rng.shuffle(base)
                mixed = [multiplied(ring, tight(ring, {(0,) * ring.many: 2 if ring.field.prime == 0 else 1}), f)
                         for f in base] + [{}]
                self.assertIs(is_base(ring, mixed), True)
                for at in range(len(base)):
                    fewer = base[:at] + base[at + 1:]
                    self.assertIs(is_base(ring, fewer), is_base_plainly(ring, fewer))

    def test_all_pairs_come_down_where_those_to_be_looked_at_do(self):
        rng = random.Random(5)
        for ring in rings((2,)):
            row = any_base(ring, drawn_row(rng, ring, 2, 2))
            if len(row) < 9 and is_base(ring, row):
                for f, g in itertools.combinations(row, 2):
                    self.assertEqual(rest_of(ring, crossed(ring, f, g), row), {})

    def test_great_numbers(self):
        great = 10 ** 60 - 1
        f = tight(LETTERS, {(1, 1): great, (0, 0): Fraction(1, great - 1)})
        g = tight(LETTERS, {(0, 2): Fraction(great, 11), (0, 0): 1 - great})
        self.assertIs(is_base(LETTERS, [f, g]), False)
        base = any_base(LETTERS, [f, g])
        self.assertIs(is_base(LETTERS, base), True)
        self.assertIs(is_base(LETTERS, [f, g, crossed(LETTERS, f, g)]), True)


class WhatIsHandedInAndTold(unittest.TestCase):
    """Point 2."""

    def test_drawn_ones(self):
        rng = random.Random(6)
        for ring in rings((1, 2)):
            row = drawn_row(rng, ring, 4)
            told_as_own(self, pairs, ring, row)
            told_as_own(self, is_base, ring, row)
            if row[0] and row[1]:
                told_as_own(self, crossed, ring, row[0], row[1])

    def test_where_nothing_is_left_or_nothing_changes(self):
        told_as_own(self, crossed, LETTERS, read(LETTERS, "x+y"), read(LETTERS, "x+y"))
        told_as_own(self, crossed, LETTERS, read(LETTERS, "x+1"), read(LETTERS, "x"))
        told_as_own(self, pairs, LETTERS, [])

    def test_the_same_dict_at_several_places(self):
        f = read(LETTERS, "x+y")
        self.assertEqual(crossed(LETTERS, f, f), {})
        self.assertEqual(pairs(LETTERS, [f, f]), [(0, 1)])
        self.assertIs(is_base(LETTERS, [f, f]), True)
        self.assertEqual(f, read(LETTERS, "x+y"))

    def test_arguments_by_their_names(self):
        f, g = texts(LETTERS, "x+1", "x*y")
        self.assertEqual(crossed(ring=LETTERS, f=f, g=g), read(LETTERS, "y"))
        self.assertEqual(pairs(ring=LETTERS, row=[f, g]), [(0, 1)])
        self.assertIs(is_base(ring=LETTERS, row=[f, g]), False)


if __name__ == "__main__":
    unittest.main()
