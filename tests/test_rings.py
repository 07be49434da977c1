"""Point 8, and "idealroom/rings.py" of the interface."""

import unittest

from helper import fields, told_as_own
from idealroom.errors import NoRing
from idealroom.fields import Fractions, Rests
from idealroom.orders import Degrees, Order, Tails, Weights
from idealroom.polys import first_term, poly_of
from idealroom.rings import Ring

SIXTY = 10 ** 60 - 1


class TheRing(unittest.TestCase):

    def test_the_values_many_field_order(self):
        for many in (1, 2, 3, 4):
            for field in fields():
                for order in (Order(), Degrees(), Tails(), Weights([2, 0, 1, 3][:many])):
                    ring = Ring(many, field, order)
                    self.assertEqual(ring.many, many)
                    self.assertIs(type(ring.many), int)
                    self.assertIs(ring.field, field)
                    self.assertIs(ring.order, order)

    def test_arguments_by_their_names(self):
        field, order = Rests(5), Tails()
        ring = Ring(many=3, field=field, order=order)
        self.assertEqual((ring.many, ring.field, ring.order), (3, field, order))
        self.assertEqual(ring.unknown(at=1), {(0, 1, 0): 1})
        self.assertEqual(ring.constant(number=4), {(0, 0, 0): 4})

    def test_rings_stand_beside_one_another(self):
        one, other = Ring(1, Fractions(), Order()), Ring(4, Rests(2), Degrees())
        self.assertEqual((one.many, other.many), (1, 4))
        self.assertEqual((one.letters(), other.letters()), ("x", "xyzt"))
        self.assertEqual((one.field.prime, other.field.prime), (0, 2))
        self.assertIs(type(one.order), Order)

    def test_a_number_of_unknowns_that_is_not_from_1_to_4_is_refused(self):
        for many in (0, 5, 6, 100, -1, -4, -5, SIXTY, -SIXTY):
            for order in (Order(), Degrees(), Tails(), Weights([1]), Weights([1, 2]), Weights([])):
                for field in (Fractions(), Rests(7)):
                    with self.subTest(many=many), self.assertRaises(NoRing) as caught:
                        Ring(many, field, order)
                    self.assertIs(type(caught.exception), NoRing)

    def test_five_weights_do_not_make_a_ring_of_five(self):
        for many in (0, 5, 6):
            with self.assertRaises(NoRing):
                Ring(many, Fractions(), Weights([1] * many))

    def test_weights_too_many_or_too_few_are_refused(self):
        for many in (1, 2, 3, 4):
            for length in range(7):
                order = Weights([1] * length)
                if length == many:
                    self.assertIs(Ring(many, Fractions(), order).order, order)
                else:
                    with self.subTest(many=many, length=length), self.assertRaises(NoRing):
                        Ring(many, Rests(3), order)


class TheLetters(unittest.TestCase):

    def test_the_first_so_many_of_x_y_z_t(self):
        for many, letters in ((1, "x"), (2, "xy"), (3, "xyz"), (4, "xyzt")):
            for field in fields():
                told = Ring(many, field, Order()).letters()
                self.assertIs(type(told), str)
                self.assertEqual(told, letters)


class UnknownAndConstant(unittest.TestCase):

    def test_each_unknown(self):
        for field in fields():
            one = field.one()
            self.assertEqual(Ring(1, field, Order()).unknown(0), {(1,): one})
            self.assertEqual(Ring(2, field, Order()).unknown(0), {(1, 0): one})
            self.assertEqual(Ring(2, field, Degrees()).unknown(1), {(0, 1): one})
            self.assertEqual(Ring(3, field, Tails()).unknown(1), {(0, 1, 0): one})
            self.assertEqual(Ring(4, field, Order()).unknown(0), {(1, 0, 0, 0): one})
            self.assertEqual(Ring(4, field, Weights([0, 0, 0, 1])).unknown(3), {(0, 0, 0, 1): one})

    def test_constants(self):
        ring = Ring(3, Fractions(), Order())
        self.assertEqual(ring.constant((-3, 7)), {(0, 0, 0): (-3, 7)})
        self.assertEqual(ring.constant((1, 1)), {(0, 0, 0): (1, 1)})
        self.assertEqual(ring.constant((SIXTY, 2)), {(0, 0, 0): (SIXTY, 2)})
        self.assertEqual(Ring(1, Rests(2), Order()).constant(1), {(0,): 1})
        self.assertEqual(Ring(4, Rests(9973), Order()).constant(9972), {(0, 0, 0, 0): 9972})

    def test_the_constant_nought_is_the_polynomial_nought(self):
        for many in (1, 2, 3, 4):
            for field in fields():
                self.assertEqual(Ring(many, field, Degrees()).constant(field.nought()), {})


class WhatIsHandedInAndTold(unittest.TestCase):
    """Point 2."""

    def test_what_is_told_is_the_askers_own(self):
        for field in fields():
            for many in (1, 2, 4):
                ring = Ring(many, field, Order())
                for at in range(many):
                    told_as_own(self, ring.unknown, at)
                told_as_own(self, ring.constant, field.one())
                told_as_own(self, ring.constant, field.nought())

    def test_what_was_told_is_changed_and_asked_again(self):
        ring = Ring(2, Fractions(), Order())
        told = ring.unknown(0)
        told[(1, 0)] = (5, 1)
        told[(7, 7)] = (1, 1)
        self.assertEqual(ring.unknown(0), {(1, 0): (1, 1)})
        self.assertEqual(ring.unknown(1), {(0, 1): (1, 1)})
        told = ring.constant((2, 1))
        told.clear()
        self.assertEqual(ring.constant((2, 1)), {(0, 0): (2, 1)})
        told = ring.constant((0, 1))
        told[(0, 0)] = (1, 1)
        self.assertEqual(ring.constant((0, 1)), {})

    def test_the_list_of_weights_is_changed_behind_the_rings_making(self):
        weights = [0, 1]
        ring = Ring(2, Fractions(), Weights(weights))
        f = poly_of(ring, [(1, 1, (1, 0)), (1, 1, (0, 1))])
        self.assertEqual(first_term(ring, f), (0, 1))
        weights[0] = 9
        self.assertEqual(first_term(ring, f), (0, 1))
        weights.append(4)
        self.assertEqual(ring.order.weights, (0, 1))
        self.assertIs(ring.order.fits(2), True)
        weights.clear()
        self.assertEqual(first_term(ring, f), (0, 1))

    def test_what_is_refused_changes_nothing(self):
        field, order = Fractions(), Weights([3, 1])
        ring = Ring(2, field, order)
        for many in (0, 1, 3, 5):
            with self.assertRaises(NoRing):
                Ring(many, field, order)
        self.assertEqual((ring.many, ring.field, ring.order), (2, field, order))
        self.assertEqual(order.weights, (3, 1))
        self.assertIs(Ring(2, field, order).order, order)


if __name__ == "__main__":
    unittest.main()
