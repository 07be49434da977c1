"""Point 5, and "idealroom/terms.py" of the interface."""

import itertools
import unittest

from idealroom.errors import NoTerm
from idealroom.terms import degree, goes_into, left_over, meeting, product, stand_apart

SIXTY = 10 ** 60 - 1


def terms_of(many, greatest):
    return list(itertools.product(range(greatest + 1), repeat=many))


def pairs_of_terms():
    """Each pair of small terms of one to four unknowns, and some of great powers."""
    pairs = []
    for many, greatest in ((1, 6), (2, 3), (3, 2), (4, 1)):
        terms = terms_of(many, greatest)
        pairs.extend(itertools.product(terms, terms))
    great = [(SIXTY, 0, 1), (0, SIXTY, SIXTY), (SIXTY - 1, SIXTY, 0), (10 ** 59, 2 ** 64, 5), (0, 0, 0)]
    pairs.extend(itertools.product(great, great))
    return pairs


class Terms(unittest.TestCase):

    def assert_term(self, term, expected):
        self.assertIs(type(term), tuple)
        self.assertEqual([type(power) for power in term], [int] * len(expected))
        self.assertEqual(term, expected)


class Product(Terms):

    def test_written_ones(self):
        self.assert_term(product((3,), (4,)), (7,))
        self.assert_term(product((1, 0), (2, 5)), (3, 5))
        self.assert_term(product((1, 2, 3), (0, 0, 0)), (1, 2, 3))
        self.assert_term(product((1, 2, 3, 4), (1, 2, 3, 4)), (2, 4, 6, 8))
        self.assert_term(product((SIXTY, 1), (1, SIXTY)), (10 ** 60, 10 ** 60))

    def test_adds_the_powers(self):
        for one, other in pairs_of_terms():
            self.assert_term(product(one, other), tuple(one[at] + other[at] for at in range(len(one))))


class GoesInto(unittest.TestCase):

    def test_written_ones(self):
        self.assertIs(goes_into((2,), (3,)), True)
        self.assertIs(goes_into((3,), (2,)), False)
        self.assertIs(goes_into((1, 2), (1, 2)), True)
        self.assertIs(goes_into((0, 0, 0), (1, 0, 5)), True)
        self.assertIs(goes_into((2, 0), (1, 9)), False)
        self.assertIs(goes_into((0, 2), (9, 1)), False)
        self.assertIs(goes_into((0, 0, 0, 1), (9, 9, 9, 0)), False)
        self.assertIs(goes_into((SIXTY, 0), (SIXTY, 1)), True)
        self.assertIs(goes_into((SIXTY, 0), (SIXTY - 1, 1)), False)

    def test_where_no_power_is_greater(self):
        for one, other in pairs_of_terms():
            expected = not any(one[at] > other[at] for at in range(len(one)))
            self.assertIs(goes_into(one, other), expected)


class LeftOver(Terms):

    def test_written_ones(self):
        self.assert_term(left_over((2,), (5,)), (3,))
        self.assert_term(left_over((1, 0), (1, 4)), (0, 4))
        self.assert_term(left_over((1, 2, 3), (1, 2, 3)), (0, 0, 0))
        self.assert_term(left_over((0, 0, 0, 0), (1, 2, 3, 4)), (1, 2, 3, 4))
        self.assert_term(left_over((1, 2), (10 ** 59, SIXTY)), (10 ** 59 - 1, SIXTY - 2))

    def test_is_the_term_that_times_the_first_is_the_second(self):
        for one, other in pairs_of_terms():
            whole = tuple(one[at] + other[at] for at in range(len(one)))
            self.assert_term(left_over(one, whole), other)

    def test_refused_just_where_the_one_does_not_go_into_the_other(self):
        for one, other in pairs_of_terms():
            if any(one[at] > other[at] for at in range(len(one))):
                with self.assertRaises(NoTerm):
                    left_over(one, other)
            else:
                self.assert_term(left_over(one, other), tuple(other[at] - one[at] for at in range(len(one))))

    def test_refused_for_each_unknown(self):
        for many in (1, 2, 3, 4):
            for at in range(many):
                one = tuple(1 if place == at else 0 for place in range(many))
                other = tuple(0 if place == at else SIXTY for place in range(many))
                with self.subTest(one=one), self.assertRaises(NoTerm):
                    left_over(one, other)


class Meeting(Terms):

    def test_written_ones(self):
        self.assert_term(meeting((2,), (5,)), (5,))
        self.assert_term(meeting((2, 1), (1, 3)), (2, 3))
        self.assert_term(meeting((1, 0, 4), (0, 0, 4)), (1, 0, 4))
        self.assert_term(meeting((1, 0, 4, 0), (0, 2, 3, 0)), (1, 2, 4, 0))
        self.assert_term(meeting((SIXTY, 0), (SIXTY - 1, 1)), (SIXTY, 1))

    def test_the_greater_power_of_each_unknown(self):
        for one, other in pairs_of_terms():
            expected = tuple(one[at] if one[at] > other[at] else other[at] for at in range(len(one)))
            self.assert_term(meeting(one, other), expected)


class StandApart(unittest.TestCase):

    def test_written_ones(self):
        self.assertIs(stand_apart((0,), (3,)), True)
        self.assertIs(stand_apart((1,), (3,)), False)
        self.assertIs(stand_apart((0,), (0,)), True)
        self.assertIs(stand_apart((2, 0), (0, 5)), True)
        self.assertIs(stand_apart((2, 1), (0, 5)), False)
        self.assertIs(stand_apart((1, 0, 0, 7), (0, 1, 7, 0)), True)
        self.assertIs(stand_apart((1, 0, 0, 7), (0, 1, 7, 1)), False)
        self.assertIs(stand_apart((SIXTY, 0), (0, SIXTY)), True)
        self.assertIs(stand_apart((SIXTY, 0), (1, SIXTY)), False)

    def test_where_no_unknown_has_a_power_in_both(self):
        for one, other in pairs_of_terms():
            shared = [at for at in range(len(one)) if one[at] > 0 and other[at] > 0]
            self.assertIs(stand_apart(one, other), shared == [])


class Degree(unittest.TestCase):

    def test_the_sum_of_the_powers(self):
        for term, expected in (((0,), 0), ((5,), 5), ((1, 2), 3), ((0, 0, 0), 0), ((4, 0, 1), 5),
                               ((1, 2, 3, 4), 10), ((SIXTY, 1), 10 ** 60), ((SIXTY,) * 4, 4 * SIXTY)):
            with self.subTest(term=term):
                self.assertIs(type(degree(term)), int)
                self.assertEqual(degree(term), expected)


class ByName(unittest.TestCase):

    def test_arguments_by_their_names(self):
        self.assertEqual(product(one=(1, 0), other=(2, 2)), (3, 2))
        self.assertIs(goes_into(one=(1, 0), other=(2, 2)), True)
        self.assertEqual(left_over(one=(1, 0), other=(2, 2)), (1, 2))
        self.assertEqual(meeting(one=(1, 3), other=(2, 2)), (2, 3))
        self.assertIs(stand_apart(one=(1, 0), other=(2, 2)), False)
        self.assertEqual(degree(term=(1, 3)), 4)


class NothingIsKept(unittest.TestCase):
    """Point 2: the same is told again, whatever was asked or refused between."""

    def test_the_same_again(self):
        first = self.asked()
        with self.assertRaises(NoTerm):
            left_over((2, 3), (3, 2))
        product((9, 9), (9, 9))
        self.assertEqual(self.asked(), first)

    def asked(self):
        one, other = (1, 2), (3, 2)
        return [product(one, other), goes_into(one, other), left_over(one, other), meeting(one, other),
                stand_apart(one, other), degree(one), one, other]


if __name__ == "__main__":
    unittest.main()
