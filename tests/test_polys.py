"""Points 9, 10 and 11, and "idealroom/polys.py" of the interface."""

import itertools
import random
import unittest
from fractions import Fraction

from helper import (
    added, assert_number, assert_poly, drawn, drawn_number, drawn_row, fields, inverse, lead, loose, loose_number, more,
    multiplied, orders, refused_as_it_was, rings, summed_up, tight, tight_number, told_as_own)
from idealroom.errors import NoLead, NoOver, NoTerm
from idealroom.fields import Fractions, Rests
from idealroom.orders import Degrees, Order, Tails, Weights
from idealroom.polys import (
    first_number, first_term, minus, monic, plus, poly_of, reach, scaled, summed, times, value)
from idealroom.rings import Ring

SIXTY = 10 ** 60 - 1
PLANE = Ring(2, Fractions(), Order())
SEVEN = Ring(2, Rests(7), Order())


class MadeOfParts(unittest.TestCase):

    def test_written_ones(self):
        self.assertEqual(poly_of(PLANE, [(1, 2, (1, 0)), (-3, 1, (0, 0))]), {(1, 0): (1, 2), (0, 0): (-3, 1)})
        self.assertEqual(poly_of(PLANE, [(6, -4, (2, 5))]), {(2, 5): (-3, 2)})
        self.assertEqual(poly_of(SEVEN, [(1, 2, (1, 0)), (-3, 1, (0, 0))]), {(1, 0): 4, (0, 0): 4})
        self.assertEqual(poly_of(SEVEN, [(15, 8, (1, 0))]), {(1, 0): 1})
        self.assertEqual(poly_of(Ring(1, Rests(2), Order()), [(3, 5, (200,))]), {(200,): 1})

    def test_no_parts_make_nought(self):
        for ring in rings():
            self.assertEqual(poly_of(ring, []), {})

    def test_like_terms_are_added(self):
        parts = [(1, 2, (1, 1)), (1, 1, (0, 0)), (1, 3, (1, 1)), (1, 6, (1, 1))]
        self.assertEqual(poly_of(PLANE, parts), {(1, 1): (1, 1), (0, 0): (1, 1)})
        self.assertEqual(poly_of(SEVEN, [(5, 1, (1, 1)), (5, 1, (1, 1))]), {(1, 1): 3})

    def test_what_is_nought_falls_away(self):
        self.assertEqual(poly_of(PLANE, [(0, 5, (1, 1))]), {})
        self.assertEqual(poly_of(PLANE, [(0, -5, (1, 1)), (1, 1, (1, 1))]), {(1, 1): (1, 1)})
        self.assertEqual(poly_of(PLANE, [(1, 1, (1, 1)), (0, 3, (1, 1))]), {(1, 1): (1, 1)})
        self.assertEqual(poly_of(PLANE, [(1, 2, (1, 1)), (2, 1, (0, 1)), (-2, 4, (1, 1))]), {(0, 1): (2, 1)})
        self.assertEqual(poly_of(SEVEN, [(14, 3, (1, 1))]), {})
        self.assertEqual(poly_of(SEVEN, [(3, 1, (1, 1)), (4, 1, (1, 1))]), {})
        self.assertEqual(poly_of(SEVEN, [(3, 1, (1, 1)), (4, 1, (1, 1)), (1, 1, (1, 1))]), {(1, 1): 1})

    def test_drawn_parts(self):
        rng = random.Random(9)
        for ring in rings():
            for _ in range(4):
                parts, total = [], {}
                for _ in range(rng.randint(0, 8)):
                    term = tuple(rng.randint(0, 1) for _ in range(ring.many))
                    top, bottom = rng.randint(-6, 6), rng.choice([1, 5, -1, 11])
                    parts.append((top, bottom, term))
                    number = loose_number(tight_number(ring.field, Fraction(top, bottom)))
                    total[term] = total.get(term, 0) + number
                told = poly_of(ring, parts)
                assert_poly(self, ring, told)
                self.assertEqual(told, tight(ring, total))

    def test_great_numbers_and_powers(self):
        told = poly_of(PLANE, [(SIXTY, SIXTY - 1, (200, 0)), (-SIXTY, 10 ** 59, (0, 200))])
        self.assertEqual(told, tight(PLANE, {
            (200, 0): Fraction(SIXTY, SIXTY - 1), (0, 200): Fraction(-SIXTY, 10 ** 59)}))

    def test_a_term_too_short_or_too_long(self):
        for ring in rings():
            for length in range(7):
                if length != ring.many:
                    refused_as_it_was(self, NoTerm, poly_of, ring, [(1, 1, (0,) * length)])

    def test_a_power_below_0_at_each_place(self):
        for ring in rings():
            for at in range(ring.many):
                for power in (-1, -200):
                    term = tuple(power if place == at else 1 for place in range(ring.many))
                    refused_as_it_was(self, NoTerm, poly_of, ring, [(1, 1, term)])

    def test_a_bad_term_of_a_part_that_is_nought_is_refused_too(self):
        refused_as_it_was(self, NoTerm, poly_of, PLANE, [(0, 1, (0, -1))])
        refused_as_it_was(self, NoTerm, poly_of, SEVEN, [(7, 1, (0, 0, 0))])

    def test_a_bottom_that_is_nought_in_the_field(self):
        for ring in rings():
            bottoms = [0] if ring.field.prime == 0 else [0, ring.field.prime, -3 * ring.field.prime]
            for bottom in bottoms:
                for top in (0, 1, -5):
                    refused_as_it_was(self, NoOver, poly_of, ring, [(top, bottom, (1,) * ring.many)])
        self.assertEqual(poly_of(PLANE, [(1, 7, (0, 0))]), {(0, 0): (1, 7)})

    def test_the_term_goes_ahead_of_the_number_in_one_part(self):
        for term in ((0, -1), (0,), (0, 0, 0)):
            refused_as_it_was(self, NoTerm, poly_of, PLANE, [(1, 0, term)])
            refused_as_it_was(self, NoTerm, poly_of, SEVEN, [(1, 7, term)])

    def test_the_earliest_bad_part_goes_first(self):
        good, no_over, no_term = (1, 1, (0, 0)), (1, 0, (0, 0)), (1, 1, (0, 0, 0))
        both = (1, 0, (-1, 0))
        for ring in (PLANE, SEVEN):
            for parts, error in (
                    ([no_over, no_term], NoOver), ([no_term, no_over], NoTerm), ([good, no_over, no_term], NoOver),
                    ([good, no_term, no_over, good], NoTerm), ([no_over, both], NoOver), ([both, no_over], NoTerm),
                    ([good, good, no_over], NoOver), ([good, good, no_term], NoTerm)):
                refused_as_it_was(self, error, poly_of, ring, parts)


class Reckoned(unittest.TestCase):

    def test_written_ones(self):
        x, y = PLANE.unknown(0), PLANE.unknown(1)
        one = PLANE.constant((1, 1))
        self.assertEqual(plus(PLANE, x, y), {(1, 0): (1, 1), (0, 1): (1, 1)})
        self.assertEqual(minus(PLANE, x, y), {(1, 0): (1, 1), (0, 1): (-1, 1)})
        self.assertEqual(minus(PLANE, x, x), {})
        self.assertEqual(times(PLANE, plus(PLANE, x, y), minus(PLANE, x, y)), {(2, 0): (1, 1), (0, 2): (-1, 1)})
        self.assertEqual(times(PLANE, x, {}), {})
        self.assertEqual(times(PLANE, {}, x), {})
        self.assertEqual(plus(PLANE, {}, {}), {})
        self.assertEqual(minus(PLANE, {}, one), {(0, 0): (-1, 1)})
        self.assertEqual(scaled(PLANE, (-1, 2), (1, 3), plus(PLANE, x, one)), {(2, 3): (-1, 2), (1, 3): (-1, 2)})
        self.assertEqual(scaled(SEVEN, 3, (0, 2), {(1, 0): 5, (0, 0): 2}), {(1, 2): 1, (0, 2): 6})
        self.assertEqual(plus(SEVEN, {(1, 0): 3, (0, 0): 1}, {(1, 0): 4}), {(0, 0): 1})
        self.assertEqual(minus(SEVEN, {(1, 0): 3}, {(1, 0): 4}), {(1, 0): 6})

    def test_scaled_by_nought_is_nought(self):
        rng = random.Random(1)
        for ring in rings():
            f = drawn(rng, ring)
            self.assertEqual(scaled(ring, ring.field.nought(), (3,) * ring.many, f), {})
            self.assertEqual(scaled(ring, ring.field.one(), (3,) * ring.many, {}), {})

    def test_drawn_ones_over_all_rings(self):
        rng = random.Random(2)
        for ring in rings():
            for _ in range(4):
                f, g = drawn(rng, ring, 6), drawn(rng, ring, 6)
                number, term = drawn_number(rng, ring.field), tuple(rng.randint(0, 3) for _ in range(ring.many))
                told = (plus(ring, f, g), minus(ring, f, g), times(ring, f, g), scaled(ring, number, term, f))
                for poly in told:
                    assert_poly(self, ring, poly)
                self.assertEqual(told, (
                    added(ring, f, g), added(ring, f, g, -1), multiplied(ring, f, g),
                    multiplied(ring, tight(ring, {term: loose_number(number)}), f)))
                self.assertEqual(plus(ring, minus(ring, f, g), g), f)
                self.assertEqual(minus(ring, f, f), {})

    def test_products_in_which_parts_cancel(self):
        for ring in rings():
            x, last = ring.unknown(0), ring.unknown(ring.many - 1)
            one = ring.constant(ring.field.one())
            f = plus(ring, times(ring, x, last), one)
            g = minus(ring, times(ring, x, last), one)
            product = times(ring, f, g)
            assert_poly(self, ring, product)
            term = tuple(2 * power for power in next(iter(times(ring, x, last))))
            self.assertEqual(product, tight(ring, {term: 1, (0,) * ring.many: -1}))

    def test_a_prime_times_one_is_nought(self):
        for prime in (2, 3, 7):
            ring = Ring(2, Rests(prime), Degrees())
            f, total = {(1, 2): 1, (0, 0): prime - 1}, {}
            for _ in range(prime):
                total = plus(ring, total, f)
            self.assertEqual(total, {})

    def test_great_numbers_and_powers(self):
        for field in (Fractions(), Rests(9973)):
            ring = Ring(2, field, Tails())
            f = tight(ring, {(200, 1): Fraction(SIXTY, 7), (0, 0): -SIXTY})
            g = tight(ring, {(200, 1): Fraction(SIXTY, 7), (0, 0): SIXTY, (3, 200): Fraction(1, SIXTY - 2)})
            self.assertEqual(times(ring, f, g), multiplied(ring, f, g))
            self.assertEqual(plus(ring, f, g), added(ring, f, g))
            self.assertEqual(minus(ring, f, g), added(ring, f, g, -1))

    def test_many_terms(self):
        ring = Ring(2, Fractions(), Order())
        f = tight(ring, {(a, b): Fraction(a - 10, b + 1) for a in range(20) for b in range(20)})
        self.assertEqual(plus(ring, f, f), scaled(ring, (2, 1), (0, 0), f))
        g = tight(ring, {(1, 0): 1, (0, 1): -1})
        self.assertEqual(times(ring, f, g), multiplied(ring, f, g))
        self.assertEqual(times(ring, g, f), multiplied(ring, f, g))


class TheFirstTerm(unittest.TestCase):

    def test_under_each_order(self):
        f = {(2, 0, 0): 1, (0, 1, 4): 2, (1, 0, 2): 3, (0, 3, 0): 4, (0, 4, 1): 1}
        for order, term, number in (
                (Order(), (2, 0, 0), 1), (Degrees(), (0, 4, 1), 1), (Tails(), (0, 4, 1), 1),
                (Weights([1, 0, 3]), (0, 1, 4), 2), (Weights([0, 3, 1]), (0, 4, 1), 1), (Weights([3, 0, 2]), (0, 1, 4), 2),
                (Weights([0, 0, 0]), (2, 0, 0), 1)):
            ring = Ring(3, Rests(7), order)
            self.assertEqual(first_term(ring, f), term)
            self.assertEqual(first_number(ring, f), number)

    def test_degrees_and_tails_differ(self):
        f = {(1, 0, 1): (2, 3), (0, 2, 0): (5, 1)}
        self.assertEqual(first_term(Ring(3, Fractions(), Degrees()), f), (1, 0, 1))
        self.assertEqual(first_number(Ring(3, Fractions(), Degrees()), f), (2, 3))
        self.assertEqual(first_term(Ring(3, Fractions(), Tails()), f), (0, 2, 0))
        self.assertEqual(first_number(Ring(3, Fractions(), Tails()), f), (5, 1))

    def test_drawn_ones(self):
        rng = random.Random(3)
        for ring in rings():
            for _ in range(5):
                f = drawn(rng, ring, 8, (4,) * ring.many)
                if f:
                    self.assertEqual(first_term(ring, f), lead(ring, f))
                    self.assertEqual(first_number(ring, f), f[lead(ring, f)])
                    turned = dict(reversed(list(f.items())))
                    self.assertEqual(first_term(ring, turned), lead(ring, f))

    def test_nought_has_none(self):
        for ring in rings():
            refused_as_it_was(self, NoLead, first_term, ring, {})
            refused_as_it_was(self, NoLead, first_number, ring, {})


class MadeMonic(unittest.TestCase):

    def test_written_ones(self):
        f = {(1, 0): (2, 1), (0, 5): (3, 1), (0, 0): (-1, 2)}
        self.assertEqual(monic(PLANE, f), {(1, 0): (1, 1), (0, 5): (3, 2), (0, 0): (-1, 4)})
        degrees = Ring(2, Fractions(), Degrees())
        self.assertEqual(monic(degrees, f), {(1, 0): (2, 3), (0, 5): (1, 1), (0, 0): (-1, 6)})
        self.assertEqual(monic(SEVEN, {(1, 0): 3, (0, 5): 6}), {(1, 0): 1, (0, 5): 2})
        self.assertEqual(monic(PLANE, {(0, 0): (-7, 3)}), {(0, 0): (1, 1)})

    def test_drawn_ones(self):
        rng = random.Random(4)
        for ring in rings():
            f = drawn(rng, ring, 6)
            told = monic(ring, f)
            assert_poly(self, ring, told)
            if f:
                turned = inverse(ring.field, loose(f)[lead(ring, f)])
                self.assertEqual(told, tight(ring, {term: number * turned for term, number in loose(f).items()}))
                self.assertEqual(first_number(ring, told), ring.field.one())
                self.assertEqual(monic(ring, told), told)

    def test_nought_stays_nought(self):
        for ring in rings():
            self.assertEqual(monic(ring, {}), {})


class TheReach(unittest.TestCase):

    def test_the_greatest_power_of_each_unknown(self):
        self.assertEqual(reach(PLANE, {(3, 0): (1, 1), (1, 5): (2, 1), (0, 0): (1, 1)}), (3, 5))
        self.assertEqual(reach(PLANE, {(0, 0): (1, 1)}), (0, 0))
        self.assertEqual(reach(Ring(4, Rests(2), Tails()), {(0, 200, 0, 1): 1, (1, 0, 0, 3): 1}), (1, 200, 0, 3))

    def test_of_nought_all_are_0(self):
        for ring in rings():
            self.assertEqual(reach(ring, {}), (0,) * ring.many)

    def test_drawn_ones(self):
        rng = random.Random(5)
        for ring in rings():
            f = drawn(rng, ring, 6, (7,) * ring.many)
            told = reach(ring, f)
            self.assertIs(type(told), tuple)
            self.assertEqual([type(power) for power in told], [int] * ring.many)
            self.assertEqual(told, tuple(max([0] + [term[at] for term in f]) for at in range(ring.many)))


class TheValue(unittest.TestCase):

    def reckoned(self, ring, f, point):
        total = 0
        for term, number in loose(f).items():
            for at, power in enumerate(term):
                number = number * loose_number(point[at]) ** power
            total = total + number
        return tight_number(ring.field, total)

    def test_written_ones(self):
        f = {(2, 1): (1, 2), (0, 1): (3, 1), (0, 0): (-1, 1)}
        self.assertEqual(value(PLANE, f, [(2, 1), (1, 3)]), (2, 3))
        self.assertEqual(value(PLANE, f, [(0, 1), (0, 1)]), (-1, 1))
        self.assertEqual(value(PLANE, f, [(0, 1), (1, 1)]), (2, 1))
        self.assertEqual(value(SEVEN, {(2, 1): 3, (0, 3): 1}, [5, 2]), (3 * 25 * 2 + 8) % 7)
        self.assertEqual(value(PLANE, {}, [(5, 1), (5, 1)]), (0, 1))
        self.assertEqual(value(SEVEN, {}, [5, 5]), 0)

    def test_nought_to_the_power_0_is_one(self):
        for ring in rings():
            point = [ring.field.nought()] * ring.many
            f = tight(ring, {(0,) * ring.many: 1, (1,) * ring.many: 1})
            self.assertEqual(value(ring, f, point), ring.field.one())

    def test_drawn_ones(self):
        rng = random.Random(6)
        for ring in rings():
            for _ in range(3):
                f = drawn(rng, ring, 6, (4,) * ring.many)
                point = [rng.choice([ring.field.nought(), drawn_number(rng, ring.field)]) for _ in range(ring.many)]
                told = value(ring, f, point)
                assert_number(self, ring.field, told)
                self.assertEqual(told, self.reckoned(ring, f, point))

    def test_great_powers_and_numbers(self):
        f = {(200, 3): (1, 2), (0, 10): (-2, 3)}
        point = [(-3, 2), (SIXTY, 8)]
        self.assertEqual(value(PLANE, f, point), self.reckoned(PLANE, f, point))
        self.assertEqual(value(SEVEN, {(200, 3): 5}, [3, 6]), 5 * pow(3, 200, 7) * pow(6, 3, 7) % 7)

    def test_the_value_of_sums_and_products(self):
        rng = random.Random(7)
        for ring in rings():
            f, g = drawn(rng, ring), drawn(rng, ring)
            point = [drawn_number(rng, ring.field) for _ in range(ring.many)]
            a, b = value(ring, f, point), value(ring, g, point)
            self.assertEqual(value(ring, plus(ring, f, g), point), ring.field.plus(a, b))
            self.assertEqual(value(ring, times(ring, f, g), point), ring.field.times(a, b))


class SummedUp(unittest.TestCase):

    def test_empty_lists_sum_up_to_nought(self):
        for ring in rings():
            self.assertEqual(summed(ring, [], []), {})

    def test_written_ones(self):
        x, y, one = PLANE.unknown(0), PLANE.unknown(1), PLANE.constant((1, 1))
        self.assertEqual(summed(PLANE, [x], [y]), {(1, 1): (1, 1)})
        self.assertEqual(summed(PLANE, [x, y], [x, one]), {(2, 0): (1, 1), (0, 1): (1, 1)})
        self.assertEqual(summed(PLANE, [x, {}], [{}, y]), {})
        self.assertEqual(summed(PLANE, [y, {(1, 0): (-1, 1)}], [x, y]), {})

    def test_drawn_ones(self):
        rng = random.Random(8)
        for ring in rings():
            for length in (1, 2, 4):
                multiples, row = drawn_row(rng, ring, length), drawn_row(rng, ring, length)
                told = summed(ring, multiples, row)
                assert_poly(self, ring, told)
                self.assertEqual(told, summed_up(ring, multiples, row))


class WhatIsHandedInAndTold(unittest.TestCase):
    """Point 2."""

    def test_drawn_ones(self):
        rng = random.Random(10)
        for ring in rings((1, 3)):
            f, g = drawn(rng, ring), drawn(rng, ring)
            number, term = drawn_number(rng, ring.field), (1,) * ring.many
            parts = [(1, 1, term), (2, 5, (0,) * ring.many), (1, 1, term)]
            told_as_own(self, poly_of, ring, parts)
            for function in (plus, minus, times):
                told_as_own(self, function, ring, f, g)
            told_as_own(self, scaled, ring, number, term, f)
            told_as_own(self, monic, ring, f)
            told_as_own(self, reach, ring, f)
            told_as_own(self, value, ring, f, [ring.field.one()] * ring.many)
            told_as_own(self, summed, ring, [f, g], [g, f])
            if f:
                told_as_own(self, first_term, ring, f)
                told_as_own(self, first_number, ring, f)

    def test_where_what_is_told_equals_what_was_handed_in(self):
        rng = random.Random(11)
        for ring in rings():
            one, unit = ring.constant(ring.field.one()), (0,) * ring.many
            for f in (drawn(rng, ring), one, {}):
                self.assertEqual(told_as_own(self, plus, ring, f, {}), f)
                self.assertEqual(told_as_own(self, plus, ring, {}, f), f)
                self.assertEqual(told_as_own(self, minus, ring, f, {}), f)
                self.assertEqual(told_as_own(self, times, ring, f, one), f)
                self.assertEqual(told_as_own(self, times, ring, one, f), f)
                self.assertEqual(told_as_own(self, scaled, ring, ring.field.one(), unit, f), f)
                self.assertEqual(told_as_own(self, summed, ring, [one], [f]), f)
                self.assertEqual(told_as_own(self, summed, ring, [f, {}], [one, f]), f)
                once = monic(ring, f)
                self.assertEqual(told_as_own(self, monic, ring, once), once)

    def test_the_same_dict_handed_in_twice(self):
        rng = random.Random(12)
        for ring in rings():
            f = drawn(rng, ring)
            before = dict(f)
            self.assertEqual(plus(ring, f, f), added(ring, before, before))
            self.assertEqual(minus(ring, f, f), {})
            self.assertEqual(times(ring, f, f), multiplied(ring, before, before))
            self.assertEqual(summed(ring, [f, f], [f, f]), added(ring, *[multiplied(ring, before, before)] * 2))
            self.assertEqual(f, before)

    def test_terms_in_the_parts_that_are_told_twice(self):
        term = (1, 1)
        parts = [(1, 1, term), (1, 1, term)]
        told = poly_of(PLANE, parts)
        self.assertEqual(told, {(1, 1): (2, 1)})
        self.assertEqual(parts, [(1, 1, (1, 1)), (1, 1, (1, 1))])


class ByName(unittest.TestCase):

    def test_arguments_by_their_names(self):
        f, g = PLANE.unknown(0), PLANE.unknown(1)
        self.assertEqual(poly_of(ring=PLANE, parts=[(1, 1, (1, 0))]), f)
        self.assertEqual(plus(ring=PLANE, f=f, g=g), {(1, 0): (1, 1), (0, 1): (1, 1)})
        self.assertEqual(minus(ring=PLANE, f=f, g=g), {(1, 0): (1, 1), (0, 1): (-1, 1)})
        self.assertEqual(times(ring=PLANE, f=f, g=g), {(1, 1): (1, 1)})
        self.assertEqual(scaled(ring=PLANE, number=(2, 1), term=(0, 1), f=f), {(1, 1): (2, 1)})
        self.assertEqual(monic(ring=PLANE, f=f), f)
        self.assertEqual(first_term(ring=PLANE, f=f), (1, 0))
        self.assertEqual(first_number(ring=PLANE, f=f), (1, 1))
        self.assertEqual(reach(ring=PLANE, f=f), (1, 0))
        self.assertEqual(value(ring=PLANE, f=f, point=[(2, 1), (3, 1)]), (2, 1))
        self.assertEqual(summed(ring=PLANE, multiples=[f], row=[g]), {(1, 1): (1, 1)})


class AllSmallPolynomials(unittest.TestCase):
    """Every polynomial of a small ring with every other."""

    def test_of_rest_2_in_one_unknown(self):
        for order in orders(1):
            ring = Ring(1, Rests(2), order)
            polys = [{(power,): 1 for power in powers}
                     for size in range(4) for powers in itertools.combinations(range(3), size)]
            for f in polys:
                for g in polys:
                    self.assertEqual(plus(ring, f, g), added(ring, f, g))
                    self.assertEqual(minus(ring, f, g), added(ring, f, g))
                    self.assertEqual(times(ring, f, g), multiplied(ring, f, g))

    def test_first_terms_of_products_are_products(self):
        rng = random.Random(13)
        for ring in [Ring(2, field, order) for field in fields() for order in orders(2)]:
            f, g = drawn(rng, ring), drawn(rng, ring)
            if f and g:
                self.assertEqual(first_term(ring, times(ring, f, g)), more(first_term(ring, f), first_term(ring, g)))


if __name__ == "__main__":
    unittest.main()
