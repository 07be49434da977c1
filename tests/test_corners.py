"""Points 30 and 31, and "idealroom/corners.py" of the interface."""

import itertools
import random
import unittest

from helper import (
    added, any_base, divides, drawn, drawn_cases, drawn_row, is_closed_plainly, lead, least_base_plainly, orders,
    refused_as_it_was, rings, rising, texts, thinned_plainly, tight, told_as_own)
from idealroom.corners import corner, how_many
from idealroom.errors import Endless, NoBox, Open
from idealroom.fields import Fractions, Rests
from idealroom.orders import Degrees, Order, Tails, Weights
from idealroom.rings import Ring

LETTERS = Ring(2, Fractions(), Order())
DEGREES = Ring(2, Fractions(), Degrees())


def corner_plainly(ring, base):
    """Point 30: of all terms below the lone powers those that no first term goes into; None where it is endless."""
    leads = [lead(ring, f) for f in base if f]
    bounds = []
    for at in range(ring.many):
        lone = [term[at] for term in leads if sum(term) == term[at]]
        if not lone:
            return None
        bounds.append(min(lone))
    terms = [term for term in itertools.product(*[range(bound) for bound in bounds])
             if not any(divides(first, term) for first in leads)]
    return rising(ring, terms)


def drawn_finite_base(rng, ring):
    """A base with endless corner but seldom: a lone power of each unknown, and some more."""
    told = []
    for at in range(ring.many):
        power = rng.randint(1, {1: 6, 2: 3, 3: 2, 4: 2}[ring.many])
        f = drawn(rng, ring, 1, [0] * ring.many)
        term = tuple(power if place == at else 0 for place in range(ring.many))
        told.append(added(ring, f, tight(ring, {term: 1})))
    return any_base(ring, told + drawn_row(rng, ring, 1, 2, [1] * ring.many))


class TheCorner(unittest.TestCase):

    def assert_corner(self, ring, base, expected):
        with self.subTest(base=base):
            told = corner(ring, texts(ring, *base))
            self.assertIs(type(told), list)
            for term in told:
                self.assertIs(type(term), tuple)
                self.assertEqual([type(power) for power in term], [int] * ring.many)
            self.assertEqual(told, expected)

    def test_of_one_unknown(self):
        ring = Ring(1, Fractions(), Order())
        self.assert_corner(ring, ["x^3-1"], [(0,), (1,), (2,)])
        self.assert_corner(ring, ["5*x+7"], [(0,)])
        self.assert_corner(ring, ["x^3", "x^2", "x^4"], [(0,), (1,)])

    def test_rising_in_the_rings_order(self):
        base = ["x^2", "y^3"]
        self.assert_corner(LETTERS, base, [(0, 0), (0, 1), (0, 2), (1, 0), (1, 1), (1, 2)])
        self.assert_corner(DEGREES, base, [(0, 0), (0, 1), (1, 0), (0, 2), (1, 1), (1, 2)])
        self.assert_corner(Ring(2, Fractions(), Tails()), base, [(0, 0), (0, 1), (1, 0), (0, 2), (1, 1), (1, 2)])
        self.assert_corner(Ring(2, Fractions(), Weights([1, 5])), base, [(0, 0), (1, 0), (0, 1), (1, 1), (0, 2), (1, 2)])
        base = ["x^2", "y^3", "z^2", "x*y", "y*z"]
        self.assert_corner(Ring(3, Rests(2), Tails()), base, [
            (0, 0, 0), (0, 0, 1), (0, 1, 0), (1, 0, 0), (1, 0, 1), (0, 2, 0)])
        self.assert_corner(Ring(3, Rests(2), Degrees()), base, [
            (0, 0, 0), (0, 0, 1), (0, 1, 0), (1, 0, 0), (0, 2, 0), (1, 0, 1)])

    def test_the_first_terms_hang_on_the_order(self):
        self.assert_corner(LETTERS, ["x-y^2", "y^3-1"], [(0, 0), (0, 1), (0, 2)])
        self.assert_corner(DEGREES, ["y^2-x", "x*y-1", "x^2-y"], [(0, 0), (0, 1), (1, 0)])

    def test_noughts_in_the_base(self):
        self.assert_corner(LETTERS, ["0", "x", "0", "y^2", "0"], [(0, 0), (0, 1)])

    def test_a_number_alone_in_the_base(self):
        for ring in rings():
            one = ring.constant(ring.field.one())
            self.assertEqual(corner(ring, [one]), [])
            self.assertEqual(corner(ring, [{}, one, ring.unknown(0)]), [])

    def test_first_numbers_other_than_one_and_needless_ones(self):
        self.assert_corner(LETTERS, ["2*x^2", "3*y", "x^5*y", "y^2", "-7*x^2"], [(0, 0), (1, 0)])

    def test_endless(self):
        for ring in rings():
            unknowns = [ring.unknown(at) for at in range(ring.many)]
            self.assertEqual(corner(ring, unknowns), [(0,) * ring.many])
            refused_as_it_was(self, Endless, corner, ring, [])
            refused_as_it_was(self, Endless, corner, ring, [{}])
            for at in range(ring.many):
                refused_as_it_was(self, Endless, corner, ring, unknowns[:at] + [{}] + unknowns[at + 1:])

    def test_endless_though_each_unknown_is_in_some_first_term(self):
        for base in (["x*y"], ["x*y", "x^2"], ["x^2*y", "x*y^2", "y^3"], ["x"], ["y^5"]):
            refused_as_it_was(self, Endless, corner, LETTERS, texts(LETTERS, *base))

    def test_of_a_hundred_terms(self):
        self.assertEqual(corner(LETTERS, texts(LETTERS, "x^10", "y^10")), list(itertools.product(range(10), repeat=2)))
        told = corner(LETTERS, texts(LETTERS, "x^50", "x*y", "y^51"))
        self.assertEqual(told, [(0, power) for power in range(51)] + [(power, 0) for power in range(1, 50)])
        ring = Ring(4, Rests(2), Tails())
        base = texts(ring, "x^25", "y^25", "z^25", "t^25", "x*y", "x*z", "x*t", "y*z", "y*t", "z*t")
        self.assertEqual(len(corner(ring, base)), 97)
        self.assertEqual(corner(ring, base)[:6],
                         [(0, 0, 0, 0), (0, 0, 0, 1), (0, 0, 1, 0), (0, 1, 0, 0), (1, 0, 0, 0), (0, 0, 0, 2)])

    def test_drawn_bases(self):
        rng = random.Random(1)
        for ring in rings():
            base = drawn_finite_base(rng, ring) + [{}]
            rng.shuffle(base)
            expected = corner_plainly(ring, base)
            if expected is None:
                refused_as_it_was(self, Endless, corner, ring, base)
            else:
                self.assertEqual(corner(ring, base), expected)
                self.assertEqual(corner(ring, thinned_plainly(ring, base)), expected)


class HowMany(unittest.TestCase):

    def assert_number(self, ring, told, box, expected):
        with self.subTest(told=told):
            answer = how_many(ring, texts(ring, *told), box)
            self.assertIs(type(answer), int)
            self.assertEqual(answer, expected)

    def test_written_ones(self):
        self.assert_number(LETTERS, ["x^2-1", "y^2-1"], [2, 2], 4)
        self.assert_number(LETTERS, ["x*y-1", "y^2-1"], [1, 2], 2)
        self.assert_number(LETTERS, ["x", "y"], [1, 1], 1)
        self.assert_number(LETTERS, ["x", "x+1"], [1, 1], 0)
        self.assert_number(LETTERS, ["9"], [0, 0], 0)
        self.assert_number(DEGREES, ["x-y^2", "y^3-1"], [2, 4], 3)

    def test_each_answer_counts_as_often_as_it_weighs(self):
        self.assert_number(LETTERS, ["x^2", "y^3"], [2, 3], 6)
        self.assert_number(Ring(1, Rests(3), Order()), ["x^3-1"], [3], 3)
        self.assert_number(Ring(1, Fractions(), Order()), ["x^2+1"], [2], 2)

    def test_the_same_under_each_order(self):
        for field in (Fractions(), Rests(5)):
            for order in orders(2):
                self.assert_number(Ring(2, field, order), ["x^2+y-1", "y^2-x"], [4, 4], 4)

    def test_endless(self):
        for told, box in (([], [0, 0]), (["0"], [1, 1]), (["x"], [1, 1]), (["x*y", "x^2"], [2, 2])):
            refused_as_it_was(self, Endless, how_many, LETTERS, texts(LETTERS, *told), box)

    def test_no_box_then_open_then_endless(self):
        endless, not_closed = texts(LETTERS, "x"), texts(LETTERS, "x*y-1", "y^2-1")
        for box in ([1], [1, 1, 1], [-1, 0], [9, 10]):
            for told in (endless, not_closed, []):
                refused_as_it_was(self, NoBox, how_many, LETTERS, told, box)
        refused_as_it_was(self, Open, how_many, LETTERS, not_closed, [1, 1])
        # By its told ones it is endless as well, but this the room does not show.
        refused_as_it_was(self, Open, how_many, LETTERS, texts(LETTERS, "x^3"), [2, 2])
        refused_as_it_was(self, Endless, how_many, LETTERS, texts(LETTERS, "x^3"), [3, 0])

    def test_drawn_ones(self):
        found = {Open: 0, Endless: 0, "number": 0}
        for ring, told, box in drawn_cases(2, (1, 2, 3)):
            if not is_closed_plainly(ring, told, box):
                found[Open] += 1
                refused_as_it_was(self, Open, how_many, ring, told, box)
                continue
            expected = corner_plainly(ring, least_base_plainly(ring, told))
            if expected is None:
                found[Endless] += 1
                refused_as_it_was(self, Endless, how_many, ring, told, box)
            else:
                found["number"] += 1
                self.assertEqual(how_many(ring, told, box), len(expected))
        self.assertGreater(min(found.values()), 5)


class WhatIsHandedInAndTold(unittest.TestCase):
    """Point 2."""

    def test_it_is_the_askers_own(self):
        for base in (["x^2", "y"], ["1"], ["x-y^2", "0", "y^3-1"]):
            told_as_own(self, corner, LETTERS, texts(LETTERS, *base))
        told_as_own(self, how_many, LETTERS, texts(LETTERS, "x*y-1", "0", "y^2-1"), [1, 2])

    def test_arguments_by_their_names(self):
        base = texts(LETTERS, "x", "y")
        self.assertEqual(corner(ring=LETTERS, base=base), [(0, 0)])
        self.assertEqual(how_many(ring=LETTERS, told=base, box=[1, 1]), 1)


if __name__ == "__main__":
    unittest.main()
