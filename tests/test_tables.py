"""Points 32 and 33, and "idealroom/tables.py" of the interface."""

import random
import unittest
from fractions import Fraction

from helper import (
    added, any_base, assert_number, divides, drawn, inverse, lead, least_base_plainly, loose, loose_number, more,
    multiplied, orders, refused_as_it_was, rest_of, rings, rising, terms_up_to, texts, tight, tight_number, told_as_own)
from idealroom.errors import Endless
from idealroom.fields import Fractions, Rests
from idealroom.orders import Degrees, Order, Tails
from idealroom.rings import Ring
from idealroom.tables import least_dependence, table
from idealroom.texts import read

LINE = Ring(1, Fractions(), Order())
LETTERS = Ring(2, Fractions(), Order())
DEGREES = Ring(2, Fractions(), Degrees())


def corner_of(ring, base):
    """All terms of powers below 7 that no first term goes into."""
    leads = [lead(ring, f) for f in base if f]
    return rising(ring, [term for term in terms_up_to([6] * ring.many) if not any(divides(first, term) for first in leads)])


def finite_bases(seed, manys=(1, 2, 3)):
    """Tuples (ring, base): bases with small corners, some with noughts and with first numbers other than one."""
    rng = random.Random(seed)
    for ring in rings(manys):
        told = []
        for at in range(ring.many):
            power = rng.randint(1, {1: 4, 2: 3, 3: 2}[ring.many])
            term = tuple(power if place == at else 0 for place in range(ring.many))
            told.append(added(ring, drawn(rng, ring, 2, [min(1, power - 1)] * ring.many), tight(ring, {term: 3})))
        base = any_base(ring, [f for f in told if f])
        finite = all(any(sum(lead(ring, f)) == lead(ring, f)[at] for f in base) for at in range(ring.many))
        if len(base) < 8 and finite and len(corner_of(ring, base)) < 20:
            scale = tight(ring, {(0,) * ring.many: 5})
            base = [multiplied(ring, scale, f) for f in base] + [{}]
            rng.shuffle(base)
            yield ring, base


def rank_of(ring, rows):
    """How many of the rows of numbers stand apart."""
    rows, found = [list(row) for row in rows], 0
    for column in range(len(rows[0]) if rows else 0):
        at = next((at for at in range(found, len(rows)) if rows[at][column] != 0), None)
        if at is None:
            continue
        rows[found], rows[at] = rows[at], rows[found]
        turned = inverse(ring.field, rows[found][column])
        for other in range(found + 1, len(rows)):
            factor = rows[other][column] * turned
            rows[other] = [a - factor * b for a, b in zip(rows[other], rows[found])]
            if ring.field.prime:
                rows[other] = [number % ring.field.prime for number in rows[other]]
        found += 1
    return found


class Tables(unittest.TestCase):

    def assert_table(self, ring, base, at, expected):
        with self.subTest(base=base, at=at):
            told = table(ring, texts(ring, *base), at)
            self.assertEqual(told, [[tight_number(ring.field, number) for number in row] for row in expected])

    def test_of_one_unknown(self):
        self.assert_table(LINE, ["x^2-3*x+2"], 0, [[0, 1], [-2, 3]])
        self.assert_table(LINE, ["2*x^3-1"], 0, [[0, 1, 0], [0, 0, 1], [Fraction(1, 2), 0, 0]])
        self.assert_table(Ring(1, Rests(7), Order()), ["2*x^3-1"], 0, [[0, 1, 0], [0, 0, 1], [4, 0, 0]])
        self.assert_table(LINE, ["x-5"], 0, [[5]])

    def test_of_two_unknowns(self):
        base = ["x-y", "y^2-1"]
        self.assert_table(LETTERS, base, 0, [[0, 1], [1, 0]])
        self.assert_table(LETTERS, base, 1, [[0, 1], [1, 0]])
        base = ["y^2-x", "x*y-1", "x^2-y"]
        self.assert_table(DEGREES, base, 0, [[0, 0, 1], [1, 0, 0], [0, 1, 0]])
        self.assert_table(DEGREES, base, 1, [[0, 1, 0], [0, 0, 1], [1, 0, 0]])

    def test_the_corners_order_is_that_of_the_rows_and_of_the_numbers(self):
        base = ["x^2", "y^2"]
        self.assert_table(LETTERS, base, 0, [[0, 0, 1, 0], [0, 0, 0, 1], [0, 0, 0, 0], [0, 0, 0, 0]])
        self.assert_table(LETTERS, base, 1, [[0, 1, 0, 0], [0, 0, 0, 0], [0, 0, 0, 1], [0, 0, 0, 0]])

    def test_of_a_number_alone(self):
        for ring in rings():
            one = ring.constant(ring.field.one())
            for at in range(ring.many):
                self.assertEqual(table(ring, [one], at), [])
                self.assertEqual(table(ring, [{}, one, ring.unknown(0)], at), [])

    def test_by_each_sentence_of_point_32(self):
        for ring, base in finite_bases(1):
            terms = corner_of(ring, base)
            for at in range(ring.many):
                told = table(ring, base, at)
                self.assertIs(type(told), list)
                unknown = tuple(int(place == at) for place in range(ring.many))
                expected = []
                for term in terms:
                    rest = rest_of(ring, tight(ring, {more(unknown, term): 1}), base)
                    expected.append([rest.get(other, tight_number(ring.field, 0)) for other in terms])
                self.assertEqual(told, expected)
                for row in told:
                    self.assertIs(type(row), list)
                    for number in row:
                        assert_number(self, ring.field, number)

    def test_two_tables_multiplied_in_either_order(self):
        for ring, base in finite_bases(2, (2, 3)):
            one, other = [[[loose_number(number) for number in row] for row in table(ring, base, at)] for at in (0, 1)]
            self.assertEqual(self.product(ring, one, other), self.product(ring, other, one))

    def product(self, ring, one, other):
        return [[tight_number(ring.field, sum(row[at] * other[at][column] for at in range(len(row))))
                 for column in range(len(row))] for row in one]

    def test_endless(self):
        for base in ([], ["0"], ["x"], ["y^2"], ["x*y", "x^3"]):
            for at in (0, 1):
                refused_as_it_was(self, Endless, table, LETTERS, texts(LETTERS, *base), at)


class LeastDependence(unittest.TestCase):

    def assert_dependence(self, ring, base, poly, expected):
        with self.subTest(base=base, poly=poly):
            told = least_dependence(ring, texts(ring, *base), read(ring, poly))
            self.assertIs(type(told), list)
            self.assertEqual(told, [tight_number(ring.field, number) for number in expected])

    def test_written_ones(self):
        self.assert_dependence(LINE, ["x^2-3*x+2"], "x", [2, -3, 1])
        self.assert_dependence(LINE, ["x^2-3*x+2"], "2*x", [8, -6, 1])
        self.assert_dependence(LINE, ["3*x^2-1"], "x", [Fraction(-1, 3), 0, 1])
        self.assert_dependence(LINE, ["3*x^2-1"], "x^2", [Fraction(-1, 3), 1])
        self.assert_dependence(LINE, ["x^5"], "x^3", [0, 0, 1])
        self.assert_dependence(LETTERS, ["x^2-2", "y^2-3"], "x+y", [1, 0, -10, 0, 1])
        self.assert_dependence(LETTERS, ["x^2-2", "y^2-3"], "x*y", [-6, 0, 1])
        self.assert_dependence(Ring(2, Rests(5), Tails()), ["x^2-2", "y^2-3"], "x+y", [1, 0, 0, 0, 1])

    def test_of_a_number(self):
        base = ["x^2-2", "y^2-3"]
        self.assert_dependence(LETTERS, base, "7/3", [Fraction(-7, 3), 1])
        self.assert_dependence(LETTERS, base, "1", [-1, 1])
        self.assert_dependence(LETTERS, base, "0", [0, 1])
        self.assert_dependence(Ring(2, Rests(5), Order()), base, "3", [2, 1])

    def test_of_what_is_within_or_equals_a_number_but_for_that(self):
        self.assert_dependence(LETTERS, ["x^2-2", "y^2-3"], "x^2-2", [0, 1])
        self.assert_dependence(LETTERS, ["x^2-2", "y^2-3"], "x^2*y^2", [-6, 1])
        self.assert_dependence(LETTERS, ["x^2-2", "0", "y^2-3"], "x^90", [-(2 ** 45), 1])

    def test_of_a_base_with_a_number_alone_in_it(self):
        for ring in rings():
            one = ring.constant(ring.field.one())
            for poly in ({}, one, ring.unknown(0)):
                self.assertEqual(least_dependence(ring, [one], poly), [ring.field.one()])
                self.assertEqual(least_dependence(ring, [ring.unknown(0), {}, one], poly), [ring.field.one()])

    def test_by_each_sentence_of_point_33(self):
        rng = random.Random(3)
        lengths = []
        for ring, base in finite_bases(4):
            terms = corner_of(ring, base)
            for poly in (drawn(rng, ring, 3), drawn(rng, ring, 2, [1] * ring.many), ring.unknown(0)):
                told = least_dependence(ring, base, poly)
                self.assertIs(type(told), list)
                for number in told:
                    assert_number(self, ring.field, number)
                self.assertEqual(told[-1], ring.field.one())
                total, power, powers = {}, tight(ring, {(0,) * ring.many: 1}), []
                for number in told:
                    rest = loose(rest_of(ring, power, base))
                    powers.append([rest.get(term, 0) for term in terms])
                    total = added(ring, total, multiplied(ring, ring.constant(number), power))
                    power = multiplied(ring, power, poly)
                self.assertEqual(rest_of(ring, total, base), {})
                # No shorter one is there: the powers ahead of the last stand apart.
                self.assertEqual(rank_of(ring, powers[:-1]), len(told) - 1)
                lengths.append(len(told))
        self.assertGreater(max(lengths), 3)

    def test_the_order_and_the_form_of_the_base_count_nothing(self):
        for field in (Fractions(), Rests(7)):
            for order in orders(2):
                ring = Ring(2, field, order)
                base = least_base_plainly(ring, texts(ring, "x^2+y-1", "y^2-x"))
                told = least_dependence(ring, base, read(ring, "x+2*y"))
                self.assertEqual(told, least_dependence(Ring(2, field, Order()), least_base_plainly(
                    Ring(2, field, Order()), texts(ring, "x^2+y-1", "y^2-x")), read(ring, "x+2*y")))

    def test_endless(self):
        for base in ([], ["0"], ["x"], ["y^2"], ["x*y", "x^3"]):
            for poly in ("x", "0", "1"):
                refused_as_it_was(self, Endless, least_dependence, LETTERS, texts(LETTERS, *base), read(LETTERS, poly))

    def test_great_powers(self):
        ring = Ring(1, Fractions(), Order())
        base = [tight(ring, {(30,): 1, (0,): -2})]
        self.assertEqual(least_dependence(ring, base, ring.unknown(0)),
                         [(-2, 1)] + [(0, 1)] * 29 + [(1, 1)])
        self.assertEqual(least_dependence(ring, base, tight(ring, {(199,): 1})),
                         [(-(2 ** 199), 1)] + [(0, 1)] * 29 + [(1, 1)])


class WhatIsHandedInAndTold(unittest.TestCase):
    """Point 2."""

    def test_it_is_the_askers_own(self):
        rng = random.Random(5)
        for ring, base in finite_bases(6, (1, 2)):
            told_as_own(self, table, ring, base, 0)
            told_as_own(self, least_dependence, ring, base, drawn(rng, ring))
        told_as_own(self, table, LINE, texts(LINE, "1"), 0)
        told_as_own(self, least_dependence, LINE, texts(LINE, "1"), {})

    def test_arguments_by_their_names(self):
        base = texts(LINE, "x-5")
        self.assertEqual(table(ring=LINE, base=base, at=0), [[(5, 1)]])
        self.assertEqual(least_dependence(ring=LINE, base=base, poly=LINE.unknown(0)), [(-5, 1), (1, 1)])


if __name__ == "__main__":
    unittest.main()
