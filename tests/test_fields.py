"""Point 4, and "idealroom/fields.py" of the interface."""

import math
import unittest
from fractions import Fraction

from idealroom.errors import NoOver, NoPrime
from idealroom.fields import Field, Fractions, Rests

SIXTY = 10 ** 60 - 1
GREAT = (SIXTY, -SIXTY, 10 ** 59, -(10 ** 59) - 7, 2 ** 190, -(2 ** 100) * 3 ** 60, 6 ** 76, 35 ** 38)
SMALL = tuple(range(-7, 8)) + (12, -18, 30, 97, -100)
SOME_PRIMES = (2, 3, 5, 7, 31, 101, 9967, 9973)


def primes_below(bound):
    crossed = [False] * bound
    found = []
    for number in range(2, bound):
        if not crossed[number]:
            found.append(number)
            for multiple in range(number * number, bound, number):
                crossed[multiple] = True
    return found


def pair_of(fraction):
    return (fraction.numerator, fraction.denominator)


class Made(unittest.TestCase):
    """Looks at what a number is, too: equal is not enough, for True == 1 and 2.0 == 2."""

    def assert_fraction(self, number, expected):
        self.assertIs(type(number), tuple)
        self.assertEqual([type(part) for part in number], [int, int])
        self.assertEqual(number, expected)

    def assert_rest(self, number, expected):
        self.assertIs(type(number), int)
        self.assertEqual(number, expected)


class TheClasses(unittest.TestCase):

    def test_both_stand_under_field(self):
        self.assertIsInstance(Fractions(), Field)
        self.assertIsInstance(Rests(7), Field)
        self.assertNotIsInstance(Fractions(), Rests)
        self.assertNotIsInstance(Rests(7), Fractions)

    def test_the_value_prime(self):
        self.assertEqual(Fractions().prime, 0)
        for prime in SOME_PRIMES:
            self.assertEqual(Rests(prime).prime, prime)

    def test_fields_of_several_primes_stand_beside_one_another(self):
        two, seven, fractions, three = Rests(2), Rests(7), Fractions(), Rests(3)
        self.assertEqual((two.prime, seven.prime, fractions.prime, three.prime), (2, 7, 0, 3))
        self.assertEqual((two.plus(1, 1), seven.plus(6, 6), three.plus(2, 2)), (0, 5, 1))

    def test_arguments_by_their_names(self):
        for field in (Fractions(), Rests(prime=7)):
            two, three = field.made(top=2), field.made(top=6, bottom=2)
            self.assertEqual(field.plus(a=two, b=three), field.made(5))
            self.assertEqual(field.minus(a=two, b=three), field.made(-1))
            self.assertEqual(field.times(a=two, b=three), field.made(6))
            self.assertEqual(field.over(a=two, b=three), field.made(2, 3))
            self.assertEqual(field.against(a=two), field.made(-2))
            self.assertEqual(field.turned(a=two), field.made(1, 2))


class WhichPrimes(unittest.TestCase):

    def test_just_the_primes_from_2_to_9973(self):
        primes = set(primes_below(9974))
        self.assertEqual(max(primes), 9973)
        for number in range(-200, 10300):
            if number in primes:
                self.assertEqual(Rests(number).prime, number)
            else:
                with self.assertRaises(NoPrime):
                    Rests(number)

    def test_below_2(self):
        for number in (1, 0, -1, -2, -3, -7, -9973, -SIXTY):
            with self.subTest(number=number), self.assertRaises(NoPrime):
                Rests(number)

    def test_beyond_9973_primes_too(self):
        for number in (9974, 10007, 10009, 65537, 2 ** 31 - 1, 2 ** 61 - 1, 2 ** 127 - 1, 10 ** 59, SIXTY):
            with self.subTest(number=number), self.assertRaises(NoPrime):
                Rests(number)

    def test_squares_of_primes_and_other_products(self):
        for number in (4, 9, 25, 49, 121, 89 * 89, 97 * 97, 6, 15, 8, 27, 1001, 561, 2 * 4987, 83 * 113, 89 * 109):
            with self.subTest(number=number), self.assertRaises(NoPrime):
                Rests(number)


class FractionsMade(Made):

    def test_nought_and_one(self):
        self.assert_fraction(Fractions().nought(), (0, 1))
        self.assert_fraction(Fractions().one(), (1, 1))

    def test_lowest_form(self):
        field = Fractions()
        self.assert_fraction(field.made(6, 4), (3, 2))
        self.assert_fraction(field.made(3, 2), (3, 2))
        self.assert_fraction(field.made(12, 4), (3, 1))
        self.assert_fraction(field.made(4, 12), (1, 3))
        self.assert_fraction(field.made(0, 12), (0, 1))

    def test_signs(self):
        field = Fractions()
        self.assert_fraction(field.made(-6, 4), (-3, 2))
        self.assert_fraction(field.made(6, -4), (-3, 2))
        self.assert_fraction(field.made(-6, -4), (3, 2))
        self.assert_fraction(field.made(0, -4), (0, 1))
        self.assert_fraction(field.made(5, -1), (-5, 1))
        self.assert_fraction(field.made(-1, -1), (1, 1))

    def test_bottom_left_out(self):
        for top in SMALL + GREAT:
            self.assert_fraction(Fractions().made(top), (top, 1))

    def test_every_top_over_every_bottom(self):
        for top in SMALL + GREAT:
            for bottom in SMALL + GREAT:
                if bottom != 0:
                    number = Fractions().made(top, bottom)
                    self.assert_fraction(number, pair_of(Fraction(top, bottom)))
                    self.assertEqual(math.gcd(number[0], number[1]), 1)
                    self.assertGreaterEqual(number[1], 1)

    def test_bottom_0_is_refused(self):
        for top in (0, 1, -3, SIXTY):
            with self.subTest(top=top), self.assertRaises(NoOver):
                Fractions().made(top, 0)


class FractionsReckoned(Made):

    def numbers(self):
        tops = (0, 1, -1, 2, -3, 6, 10, -35, SIXTY, -(2 ** 190))
        bottoms = (1, 2, 3, 6, 35, 10 ** 59, 6 ** 76)
        return sorted({Fraction(top, bottom) for top in tops for bottom in bottoms})

    def test_written_ones(self):
        field = Fractions()
        self.assert_fraction(field.plus((1, 2), (1, 3)), (5, 6))
        self.assert_fraction(field.plus((1, 6), (1, 3)), (1, 2))
        self.assert_fraction(field.plus((1, 2), (-1, 2)), (0, 1))
        self.assert_fraction(field.minus((1, 2), (1, 3)), (1, 6))
        self.assert_fraction(field.minus((1, 3), (1, 2)), (-1, 6))
        self.assert_fraction(field.minus((5, 7), (5, 7)), (0, 1))
        self.assert_fraction(field.times((2, 3), (3, 4)), (1, 2))
        self.assert_fraction(field.times((-2, 3), (0, 1)), (0, 1))
        self.assert_fraction(field.times((-2, 3), (-3, 2)), (1, 1))
        self.assert_fraction(field.over((2, 3), (-4, 9)), (-3, 2))
        self.assert_fraction(field.over((0, 1), (-4, 9)), (0, 1))
        self.assert_fraction(field.against((2, 3)), (-2, 3))
        self.assert_fraction(field.against((-2, 3)), (2, 3))
        self.assert_fraction(field.against((0, 1)), (0, 1))
        self.assert_fraction(field.turned((2, 3)), (3, 2))
        self.assert_fraction(field.turned((-2, 3)), (-3, 2))
        self.assert_fraction(field.turned((-1, 3)), (-3, 1))
        self.assert_fraction(field.turned((7, 1)), (1, 7))

    def test_each_number_with_each(self):
        field, numbers = Fractions(), self.numbers()
        for one in numbers:
            for other in numbers:
                a, b = pair_of(one), pair_of(other)
                self.assert_fraction(field.plus(a, b), pair_of(one + other))
                self.assert_fraction(field.minus(a, b), pair_of(one - other))
                self.assert_fraction(field.times(a, b), pair_of(one * other))
                if other != 0:
                    self.assert_fraction(field.over(a, b), pair_of(one / other))

    def test_against_and_turned_of_each_number(self):
        field = Fractions()
        for one in self.numbers():
            a = pair_of(one)
            self.assert_fraction(field.against(a), pair_of(-one))
            self.assert_fraction(field.plus(a, field.against(a)), (0, 1))
            if one != 0:
                self.assert_fraction(field.turned(a), pair_of(1 / one))
                self.assert_fraction(field.times(a, field.turned(a)), (1, 1))

    def test_numbers_of_thousands_of_figures(self):
        one, other = Fraction(3 ** 3500 + 2, 2 ** 5000), Fraction(-(5 ** 2500), 6 ** 2000)
        field, a, b = Fractions(), pair_of(one), pair_of(other)
        self.assert_fraction(field.plus(a, b), pair_of(one + other))
        self.assert_fraction(field.minus(a, b), pair_of(one - other))
        self.assert_fraction(field.times(a, b), pair_of(one * other))
        self.assert_fraction(field.over(a, b), pair_of(one / other))

    def test_nought_below_and_nought_turned_over_are_refused(self):
        field = Fractions()
        with self.assertRaises(NoOver):
            field.turned((0, 1))
        for a in ((0, 1), (1, 1), (-3, 7), (SIXTY, 2)):
            with self.subTest(a=a), self.assertRaises(NoOver):
                field.over(a, (0, 1))
        self.assert_fraction(field.over((1, 2), (2, 1)), (1, 4))
        self.assertEqual(field.prime, 0)


class RestsMade(Made):

    def test_nought_and_one(self):
        for prime in SOME_PRIMES:
            self.assert_rest(Rests(prime).nought(), 0)
            self.assert_rest(Rests(prime).one(), 1)

    def test_written_ones(self):
        self.assert_rest(Rests(7).made(1, 2), 4)
        self.assert_rest(Rests(7).made(-1, 2), 3)
        self.assert_rest(Rests(7).made(1, -2), 3)
        self.assert_rest(Rests(7).made(-1, -2), 4)
        self.assert_rest(Rests(7).made(20, 3), 2)
        self.assert_rest(Rests(7).made(6, 9), 3)
        self.assert_rest(Rests(7).made(0, 5), 0)
        self.assert_rest(Rests(7).made(14, 5), 0)
        self.assert_rest(Rests(2).made(3, 5), 1)
        self.assert_rest(Rests(2).made(-4, -5), 0)
        self.assert_rest(Rests(3).made(1, 2), 2)
        self.assert_rest(Rests(9973).made(1, 2), 4987)
        self.assert_rest(Rests(9973).made(-1, 9972), 1)

    def test_bottom_left_out(self):
        for prime in SOME_PRIMES:
            for top in SMALL + GREAT + (prime, -prime, prime - 1, 3 * prime + 1):
                self.assert_rest(Rests(prime).made(top), top - prime * (top // prime))

    def test_every_top_over_every_bottom(self):
        for prime in SOME_PRIMES:
            field = Rests(prime)
            for top in SMALL + GREAT:
                for bottom in SMALL + GREAT:
                    if bottom % prime != 0:
                        self.assert_rest(field.made(top, bottom), top * pow(bottom, -1, prime) % prime)

    def test_bottom_of_rest_0_is_refused(self):
        for prime in SOME_PRIMES:
            for bottom in (0, prime, -prime, 6 * prime, prime * 10 ** 50):
                for top in (0, 1, -3, prime, SIXTY):
                    with self.subTest(prime=prime, top=top, bottom=bottom), self.assertRaises(NoOver):
                        Rests(prime).made(top, bottom)


class RestsReckoned(Made):

    def test_each_rest_with_each(self):
        for prime in (2, 3, 5, 7, 13, 31):
            field = Rests(prime)
            for a in range(prime):
                for b in range(prime):
                    self.assert_rest(field.plus(a, b), (a + b) % prime)
                    self.assert_rest(field.minus(a, b), (a - b) % prime)
                    self.assert_rest(field.times(a, b), (a * b) % prime)
                    if b != 0:
                        self.assert_rest(field.over(a, b), a * pow(b, -1, prime) % prime)

    def test_great_rests(self):
        field, rests = Rests(9973), (0, 1, 2, 3, 99, 4986, 4987, 9970, 9971, 9972)
        for a in rests:
            for b in rests:
                self.assert_rest(field.plus(a, b), (a + b) % 9973)
                self.assert_rest(field.minus(a, b), (a - b) % 9973)
                self.assert_rest(field.times(a, b), (a * b) % 9973)
                if b != 0:
                    self.assert_rest(field.over(a, b), a * pow(b, -1, 9973) % 9973)

    def test_against_and_turned_of_each_rest(self):
        for prime in (2, 3, 5, 7, 31, 9973):
            field = Rests(prime)
            self.assert_rest(field.against(0), 0)
            for a in range(1, prime):
                self.assert_rest(field.against(a), prime - a)
                self.assert_rest(field.turned(a), pow(a, -1, prime))

    def test_nought_below_and_nought_turned_over_are_refused(self):
        for prime in SOME_PRIMES:
            field = Rests(prime)
            with self.assertRaises(NoOver):
                field.turned(0)
            for a in (0, 1, prime - 1):
                with self.subTest(prime=prime, a=a), self.assertRaises(NoOver):
                    field.over(a, 0)
            self.assert_rest(field.over(1, 1), 1)
            self.assertEqual(field.prime, prime)


class NothingIsKept(unittest.TestCase):
    """Point 2: the same is told again, whatever was asked or refused between."""

    def test_the_same_again(self):
        for field in (Fractions(), Rests(5), Rests(9973)):
            with self.subTest(prime=field.prime):
                first = self.asked(field)
                for refused in (lambda: field.made(3, 0), lambda: field.turned(field.nought())):
                    with self.assertRaises(NoOver):
                        refused()
                field.times(field.made(-8, 3), field.made(4, 9))
                self.assertEqual(self.asked(field), first)

    def asked(self, field):
        a, b = field.made(2, 3), field.made(-7, 2)
        return [field.nought(), field.one(), field.plus(a, b), field.minus(a, b), field.times(a, b),
                field.over(a, b), field.against(a), field.turned(b), field.prime]


if __name__ == "__main__":
    unittest.main()
