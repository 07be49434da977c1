"""Points 6 and 7, and "idealroom/orders.py" of the interface."""

import itertools
import unittest

from idealroom.errors import NoOrder, NoTerm
from idealroom.orders import Degrees, Order, Tails, Weights

SIXTY = 10 ** 60 - 1
GREAT = ((SIXTY, 0), (0, SIXTY), (SIXTY - 1, 1), (SIXTY, SIXTY), (2 ** 64, 2 ** 64 + 1), (10 ** 59, 3))


def terms_of(many, greatest):
    return list(itertools.product(range(greatest + 1), repeat=many))


def rank_by_letters(term):
    return tuple(term)


def rank_by_degrees(term):
    return tuple([sum(term)] + list(term))


def rank_by_tails(term):
    return tuple([sum(term)] + [-power for power in term[::-1]])


def rank_by_weights(weights):
    def rank(term):
        weighed = 0
        for at in range(min(len(term), len(weights))):
            weighed = weighed + term[at] * weights[at]
        return tuple([weighed] + list(term))
    return rank


def orders_for(many):
    """Orders for so many unknowns, each with the rank that it must have."""
    found = [(Order(), rank_by_letters), (Degrees(), rank_by_degrees), (Tails(), rank_by_tails)]
    for weights in itertools.product((0, 1, 3), repeat=many):
        found.append((Weights(list(weights)), rank_by_weights(weights)))
    return found


def small_terms():
    """Pairs (many, terms) for one to four unknowns."""
    return [(1, terms_of(1, 5)), (2, terms_of(2, 3)), (3, terms_of(3, 2)), (4, terms_of(4, 1))]


class TheClasses(unittest.TestCase):

    def test_the_others_stand_under_order(self):
        for order in (Degrees(), Tails(), Weights([1, 2])):
            self.assertIsInstance(order, Order)
        self.assertIs(type(Order()), Order)

    def test_arguments_by_their_names(self):
        for order in (Order(), Degrees(), Tails(), Weights(weights=[1, 0])):
            self.assertEqual(order.rank(term=(1, 2)), order.rank((1, 2)))
            self.assertIs(order.goes_before(one=(2, 2), other=(1, 1)), True)
            self.assertEqual(order.falling(terms=[(1, 1), (2, 2)]), [(2, 2), (1, 1)])
            self.assertEqual(order.first_of(terms=[(1, 1), (2, 2)]), (2, 2))
            self.assertIs(order.takes_out(k=1), order.takes_out(1))
            self.assertIs(order.fits(many=2), True)


class Rank(unittest.TestCase):

    def assert_rank(self, order, term, expected):
        rank = order.rank(term)
        self.assertIs(type(rank), tuple)
        self.assertEqual([type(part) for part in rank], [int] * len(expected))
        self.assertEqual(rank, expected)

    def test_by_letters(self):
        self.assert_rank(Order(), (3,), (3,))
        self.assert_rank(Order(), (1, 0, 2), (1, 0, 2))
        self.assert_rank(Order(), (0, 0, 0, 0), (0, 0, 0, 0))

    def test_by_degrees(self):
        self.assert_rank(Degrees(), (3,), (3, 3))
        self.assert_rank(Degrees(), (1, 0, 2), (3, 1, 0, 2))
        self.assert_rank(Degrees(), (1, 2, 3, 4), (10, 1, 2, 3, 4))
        self.assert_rank(Degrees(), (0, 0), (0, 0, 0))

    def test_by_tails(self):
        self.assert_rank(Tails(), (3,), (3, -3))
        self.assert_rank(Tails(), (1, 0, 2), (3, -2, 0, -1))
        self.assert_rank(Tails(), (1, 2, 3, 4), (10, -4, -3, -2, -1))
        self.assert_rank(Tails(), (0, 0), (0, 0, 0))

    def test_by_weights(self):
        self.assert_rank(Weights([2]), (3,), (6, 3))
        self.assert_rank(Weights([2, 0, 5]), (1, 7, 2), (12, 1, 7, 2))
        self.assert_rank(Weights([0, 0, 0]), (1, 7, 2), (0, 1, 7, 2))
        self.assert_rank(Weights([1, 2, 3, 4]), (1, 1, 1, 1), (10, 1, 1, 1, 1))
        self.assert_rank(Weights([1, 2]), (0, 0), (0, 0, 0))

    def test_by_weights_with_fewer_powers_than_weights(self):
        self.assert_rank(Weights([2, 3, 5]), (1, 1), (5, 1, 1))
        self.assert_rank(Weights([2, 3, 5, 7]), (4,), (8, 4))
        self.assert_rank(Weights([0, 3, 5]), (4,), (0, 4))

    def test_of_great_powers_and_weights(self):
        self.assert_rank(Order(), (SIXTY, 1), (SIXTY, 1))
        self.assert_rank(Degrees(), (SIXTY, 1), (10 ** 60, SIXTY, 1))
        self.assert_rank(Tails(), (SIXTY, 1), (10 ** 60, -1, -SIXTY))
        self.assert_rank(Weights([SIXTY, 10 ** 59]), (SIXTY, 1), (SIXTY * SIXTY + 10 ** 59, SIXTY, 1))

    def test_of_all_small_terms(self):
        for many, terms in small_terms():
            for order, expected in orders_for(many):
                for term in terms:
                    self.assert_rank(order, term, expected(term))


class GoesBefore(unittest.TestCase):

    def assert_before(self, order, one, other):
        self.assertIs(order.goes_before(one, other), True)
        self.assertIs(order.goes_before(other, one), False)

    def test_written_ones(self):
        self.assert_before(Order(), (1, 0), (0, 9))
        self.assert_before(Order(), (1, 2, 0), (1, 1, 7))
        self.assert_before(Degrees(), (0, 3), (2, 0))
        self.assert_before(Degrees(), (2, 0, 1), (1, 2, 0))
        self.assert_before(Tails(), (0, 3), (2, 0))
        self.assert_before(Tails(), (1, 2, 0), (2, 0, 1))
        self.assert_before(Weights([1, 5]), (0, 1), (4, 0))
        self.assert_before(Weights([1, 5]), (5, 0), (0, 1))
        self.assert_before(Weights([0, 0]), (1, 0), (0, 9))

    def test_great_powers(self):
        self.assert_before(Order(), (SIXTY, 0), (SIXTY - 1, SIXTY))
        self.assert_before(Degrees(), (0, SIXTY), (SIXTY - 1, 0))
        self.assert_before(Tails(), (SIXTY, 0), (SIXTY - 1, 1))
        self.assert_before(Weights([1, SIXTY]), (0, 1), (SIXTY - 1, 0))

    def test_of_like_terms_none_goes_first(self):
        for many, terms in small_terms():
            for order, _ in orders_for(many):
                for term in terms:
                    self.assertIs(order.goes_before(term, tuple(list(term))), False)

    def test_the_greater_rank_goes_first(self):
        for many, terms in small_terms()[1:3]:
            for order, expected in orders_for(many):
                for one, other in itertools.product(terms, terms):
                    self.assertIs(order.goes_before(one, other), expected(one) > expected(other))


class Falling(unittest.TestCase):

    def test_written_ones(self):
        terms = [(0, 1, 1), (2, 0, 0), (0, 0, 3), (1, 1, 0), (1, 0, 1)]
        self.assertEqual(Order().falling(terms), [(2, 0, 0), (1, 1, 0), (1, 0, 1), (0, 1, 1), (0, 0, 3)])
        self.assertEqual(Degrees().falling(terms), [(0, 0, 3), (2, 0, 0), (1, 1, 0), (1, 0, 1), (0, 1, 1)])
        self.assertEqual(Degrees().falling([(1, 0, 1), (0, 2, 0)]), [(1, 0, 1), (0, 2, 0)])
        self.assertEqual(Tails().falling([(1, 0, 1), (0, 2, 0)]), [(0, 2, 0), (1, 0, 1)])
        self.assertEqual(Weights([0, 0, 1]).falling(terms),
                         [(0, 0, 3), (1, 0, 1), (0, 1, 1), (2, 0, 0), (1, 1, 0)])

    def test_like_terms_stay_as_many(self):
        for order in (Order(), Degrees(), Tails(), Weights([2, 1])):
            self.assertEqual(order.falling([(1, 1), (2, 2), (1, 1), (0, 0), (2, 2), (1, 1)]),
                             [(2, 2), (2, 2), (1, 1), (1, 1), (1, 1), (0, 0)])

    def test_of_an_empty_list_and_of_one_term(self):
        for order in (Order(), Degrees(), Tails(), Weights([2, 1]), Weights([])):
            self.assertEqual(order.falling([]), [])
            self.assertEqual(order.falling([(3, 4)]), [(3, 4)])

    def test_of_all_small_terms_however_they_stand(self):
        for many, terms in small_terms():
            for order, expected in orders_for(many):
                told = order.falling(terms)
                ranks = [expected(term) for term in told]
                self.assertEqual(sorted(told), sorted(terms))
                self.assertTrue(all(ranks[at] > ranks[at + 1] for at in range(len(ranks) - 1)))
                self.assertEqual(order.falling(terms[::-1]), told)
                self.assertEqual(order.falling(terms[1::2] + terms[::2]), told)

    def test_of_great_powers(self):
        for order, expected in orders_for(2):
            told = order.falling(list(GREAT))
            self.assertEqual(told, sorted(GREAT, key=expected)[::-1])


class FirstOf(unittest.TestCase):

    def test_written_ones(self):
        terms = [(0, 1, 1), (2, 0, 0), (0, 0, 3), (1, 1, 0)]
        self.assertEqual(Order().first_of(terms), (2, 0, 0))
        self.assertEqual(Degrees().first_of(terms), (0, 0, 3))
        self.assertEqual(Degrees().first_of([(0, 2, 0), (1, 0, 1)]), (1, 0, 1))
        self.assertEqual(Tails().first_of([(0, 2, 0), (1, 0, 1)]), (0, 2, 0))
        self.assertEqual(Weights([0, 4, 1]).first_of(terms), (0, 1, 1))
        self.assertEqual(Order().first_of([(0, 0), (0, 0)]), (0, 0))

    def test_is_the_first_of_the_falling_ones_wherever_it_stands(self):
        for many, terms in small_terms():
            for order, expected in orders_for(many):
                for start in range(len(terms)):
                    turned = (terms[start:] + terms[:start])[:5]
                    self.assertEqual(order.first_of(turned), max(turned, key=expected))

    def test_of_great_powers(self):
        for order, expected in orders_for(2):
            self.assertEqual(order.first_of(list(GREAT)), max(GREAT, key=expected))

    def test_of_an_empty_list_is_refused(self):
        for order in (Order(), Degrees(), Tails(), Weights([2, 1]), Weights([])):
            with self.assertRaises(NoTerm):
                order.first_of([])


class TakesOut(unittest.TestCase):

    def takes_out_by_terms(self, rank, many, k):
        """Point 7's own words, looked at among the terms of powers up to 4."""
        with_one, with_none = [], []
        for term in terms_of(many, 4):
            (with_one if any(power > 0 for power in term[:k]) else with_none).append(rank(term))
        return min(with_one) > max(with_none)

    def test_each_kind_and_k(self):
        for k in (1, 2, 3):
            self.assertIs(Order().takes_out(k), True)
            self.assertIs(Degrees().takes_out(k), False)
            self.assertIs(Tails().takes_out(k), False)

    def test_by_weights(self):
        for weights, k, expected in (
                ([1, 0], 1, True), ([0, 1], 1, False), ([1, 1], 1, False), ([0, 0], 1, True),
                ([1, 0, 0], 1, True), ([1, 0, 0], 2, True), ([1, 1, 0], 1, False), ([1, 1, 0], 2, True),
                ([0, 1, 0], 1, False), ([0, 1, 0], 2, True), ([0, 0, 1], 1, False), ([0, 0, 1], 2, False),
                ([1, 0, 0, 0], 1, True), ([9, 9, 9, 0], 3, True), ([9, 9, 9, 0], 2, False),
                ([0, 0, 0, SIXTY], 3, False), ([SIXTY, 0, 0, 0], 3, True), ([5, 4, 0, 1], 2, False)):
            with self.subTest(weights=weights, k=k):
                self.assertIs(Weights(weights).takes_out(k), expected)

    def test_as_the_terms_themselves_tell(self):
        for many in (2, 3, 4):
            for order, rank in orders_for(many):
                for k in range(1, many):
                    self.assertIs(order.takes_out(k), self.takes_out_by_terms(rank, many, k))


class Fits(unittest.TestCase):

    def test_letters_degrees_tails_always(self):
        for order in (Order(), Degrees(), Tails()):
            for many in (0, 1, 2, 3, 4, 5, SIXTY):
                self.assertIs(order.fits(many), True)

    def test_weights_just_where_there_are_as_many(self):
        for length in range(6):
            for many in range(7):
                self.assertIs(Weights([1] * length).fits(many), length == many)
                self.assertIs(Weights([0] * length).fits(many), length == many)


class TheWeights(unittest.TestCase):

    def test_are_a_tuple(self):
        for weights in ([], [0], [3, 0], [1, 2, 3, 4], [SIXTY, 0, 10 ** 59]):
            told = Weights(weights).weights
            self.assertIs(type(told), tuple)
            self.assertEqual(told, tuple(weights))

    def test_nought_is_no_refusal(self):
        for many in (1, 2, 3, 4):
            self.assertEqual(Weights([0] * many).weights, (0,) * many)

    def test_below_0_at_any_place_is_refused(self):
        for many in (1, 2, 3, 4):
            for at in range(many):
                for weight in (-1, -7, -SIXTY):
                    for further in (0, 5):
                        weights = [further] * many
                        weights[at] = weight
                        with self.subTest(weights=weights), self.assertRaises(NoOrder):
                            Weights(weights)


class WhatIsHandedIn(unittest.TestCase):
    """Point 2: it stays as it was, and what is told is the asker's own."""

    def test_the_list_of_weights_is_changed_later(self):
        handed = [0, 2, 0]
        order = Weights(handed)
        handed[0] = 7
        handed[2] = 7
        handed.append(9)
        self.assertEqual(order.weights, (0, 2, 0))
        self.assertEqual(order.rank((1, 1, 1)), (2, 1, 1, 1))
        self.assertIs(order.goes_before((0, 1, 0), (1, 0, 1)), True)
        self.assertEqual(order.falling([(1, 0, 1), (0, 1, 0)]), [(0, 1, 0), (1, 0, 1)])
        self.assertEqual(order.first_of([(1, 0, 1), (0, 1, 0)]), (0, 1, 0))
        self.assertIs(order.takes_out(2), True)
        self.assertIs(order.fits(3), True)
        self.assertIs(order.fits(4), False)
        handed.clear()
        self.assertEqual(order.weights, (0, 2, 0))

    def test_lists_that_are_handed_in_stay_as_they_were(self):
        handed = [2, 0, 1]
        Weights(handed).falling([(0, 0, 1), (1, 0, 0)])
        self.assertEqual(handed, [2, 0, 1])
        terms = [(0, 0), (2, 1), (0, 3), (2, 1)]
        for order in (Order(), Degrees(), Tails(), Weights([1, 0])):
            order.falling(terms)
            order.first_of(terms)
            self.assertEqual(terms, [(0, 0), (2, 1), (0, 3), (2, 1)])

    def test_what_is_told_is_the_askers_own(self):
        terms = [(2, 2), (1, 1), (0, 0)]
        for order in (Order(), Degrees(), Tails(), Weights([1, 0])):
            for handed in (terms, [], [(1, 1)]):
                before = list(handed)
                told = order.falling(handed)
                self.assertIsNot(told, handed)
                told.append((9, 9))
                told[0] = (7, 7)
                self.assertEqual(handed, before)
                again = order.falling(handed)
                self.assertIsNot(again, told)
                self.assertEqual(again, before)

    def test_a_list_is_changed_after_it_was_handed_in(self):
        terms = [(1, 1), (2, 2)]
        for order in (Order(), Degrees(), Tails(), Weights([1, 0])):
            handed = list(terms)
            told = order.falling(handed)
            handed[0] = (5, 5)
            self.assertEqual(told, [(2, 2), (1, 1)])
            self.assertEqual(order.falling(handed), [(5, 5), (2, 2)])
            self.assertEqual(order.first_of(handed), (5, 5))

    def test_what_is_refused_changes_nothing(self):
        handed = [1, -1]
        order = Weights([1, 2])
        with self.assertRaises(NoOrder):
            Weights(handed)
        self.assertEqual(handed, [1, -1])
        empty = []
        with self.assertRaises(NoTerm):
            order.first_of(empty)
        self.assertEqual(empty, [])
        self.assertEqual(order.weights, (1, 2))
        self.assertEqual(order.first_of([(0, 1), (1, 0)]), (0, 1))

    def test_orders_stand_beside_one_another(self):
        one, other = Weights([1, 0]), Weights([0, 1])
        self.assertEqual((one.weights, other.weights), ((1, 0), (0, 1)))
        self.assertEqual((one.rank((2, 3)), other.rank((2, 3))), ((2, 2, 3), (3, 2, 3)))
        self.assertEqual((Order().rank((2, 3)), one.rank((2, 3))), ((2, 3), (2, 2, 3)))


if __name__ == "__main__":
    unittest.main()
