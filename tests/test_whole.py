"""Points 1, 2 and 3 over the whole program: for drawn rows, orders, fields and boxes each sentence of point 3."""

import random
import unittest
from fractions import Fraction

from helper import (
    added, closed_cases, divides, drawn, drawn_cases, drawn_row, is_closed_plainly, lead, least_base_plainly,
    multiplied, rest_of, rings, rising, summed_up, terms_up_to, tight)
from idealroom.completing import completed, least_base
from idealroom.corners import corner, how_many
from idealroom.dividing import brought_down
from idealroom.errors import Endless, Open
from idealroom.papers import holds, paper_of
from idealroom.within import is_within, looked_up, same_sums


def told_or_open(function, *given):
    """What the function tells, or Open where it is refused so."""
    try:
        return function(*given)
    except Open:
        return Open


def greater_boxes(ring, box):
    most = {1: 10, 2: 6, 3: 3}[ring.many]
    return [[min(most, number + more_of_it) for number in box] for more_of_it in (1, 2)]


class ThePromise(unittest.TestCase):

    def test_the_least_base_is_told_or_it_is_open_just_where_the_room_does_not_show_it(self):
        answers = []
        for seed in (1, 2, 3):
            for ring, told, box in drawn_cases(seed):
                base = told_or_open(least_base, ring, told, box)
                answers.append(base is Open)
                if is_closed_plainly(ring, told, box):
                    self.assertEqual(base, least_base_plainly(ring, told))
                else:
                    self.assertIs(base, Open)
        self.assertGreater(answers.count(True), 30)
        self.assertGreater(answers.count(False), 30)

    def test_each_of_its_polynomials_comes_with_multiples_and_each_told_one_comes_down(self):
        for ring, told, box, base in closed_cases(4):
            rows = completed(ring, told, box)
            self.assertEqual([f for f, multiples in rows], base)
            for f, multiples in rows:
                self.assertEqual(summed_up(ring, multiples, told), f)
            for f in told:
                self.assertEqual(brought_down(ring, f, base), {})

    def test_it_is_the_same_in_whatever_order_multiplied_or_doubled_and_in_each_greater_room(self):
        rng = random.Random(5)
        for ring, told, box, base in closed_cases(6):
            other = []
            for f in told + rng.sample(told, len(told) // 2):
                number = rng.choice([1, -1, 5, Fraction(25, 11)])
                other.append(multiplied(ring, tight(ring, {(0,) * ring.many: number}), f))
            rng.shuffle(other)
            self.assertEqual(least_base(ring, other, box), base)
            for greater in greater_boxes(ring, box):
                if all(a >= b for a, b in zip(greater, box)):
                    self.assertEqual(least_base(ring, told, greater), base)
                    self.assertEqual(least_base(ring, other, greater), base)

    def test_it_is_the_same_where_the_told_ones_are_mixed_wherever_it_is_told_there_too(self):
        rng = random.Random(7)
        answers = []
        for ring, told, box, base in closed_cases(8):
            mixed = list(told)
            for _ in range(2):
                if len(mixed) > 1:
                    i, j = rng.sample(range(len(mixed)), 2)
                    factor = drawn(rng, ring, 2, [1] * ring.many)
                    mixed[i] = added(ring, mixed[i], multiplied(ring, factor, mixed[j]))
            for other in [box] + greater_boxes(ring, box):
                found = told_or_open(least_base, ring, mixed, other)
                answers.append(found is Open)
                self.assertIn(found, (base, Open))
        self.assertGreater(answers.count(False), 50)

    def test_a_polynomial_is_told_as_within_just_where_it_is_a_sum_of_multiples(self):
        rng = random.Random(9)
        answers = []
        for ring, told, box, base in closed_cases(10):
            inside = {}
            for f in told:
                inside = added(ring, inside, multiplied(ring, drawn(rng, ring, 2, [3] * ring.many), f))
            for poly in (inside, added(ring, inside, drawn(rng, ring, 1)), drawn(rng, ring, 3)):
                rest = rest_of(ring, poly, base)
                answers.append(rest == {})
                self.assertIs(is_within(ring, told, box, poly), answers[-1])
                multiples, left = looked_up(ring, told, box, poly)
                self.assertEqual(left, rest)
                self.assertEqual(added(ring, summed_up(ring, multiples, told), left), poly)
                paper = paper_of(ring, told, box, poly)
                self.assertEqual(paper[0], "within" if answers[-1] else "without")
                self.assertIs(holds(ring, told, poly, paper), True)
        self.assertGreater(answers.count(True), 40)
        self.assertGreater(answers.count(False), 40)

    def test_two_rows_are_told_the_same_just_where_each_is_within_the_other(self):
        rng = random.Random(11)
        answers = []
        for ring, told, box, base in closed_cases(12, (1, 2)):
            mixed = told[::-1]
            if len(mixed) > 1:
                mixed[0] = added(ring, mixed[0], mixed[1], rng.choice([1, -1, 2]))
            for other in (mixed, told[1:], drawn_row(rng, ring, 1, 2, [1] * ring.many)):
                if told_or_open(least_base, ring, other, box) is Open:
                    continue
                answers.append(all([is_within(ring, told, box, f) for f in other])
                               and all([is_within(ring, other, box, f) for f in told]))
                self.assertIs(same_sums(ring, told, other, box), answers[-1])
        self.assertGreater(answers.count(True), 10)
        self.assertGreater(answers.count(False), 10)

    def test_the_answers_counted_are_the_terms_that_no_first_term_goes_into(self):
        counted = 0
        for ring, told, box, base in closed_cases(13):
            try:
                number = how_many(ring, told, box)
            except Endless:
                with self.assertRaises(Endless):
                    corner(ring, base)
                continue
            counted += 1
            leads = [lead(ring, f) for f in base]
            outside = [term for term in terms_up_to([8] * ring.many) if not any(divides(first, term) for first in leads)]
            self.assertEqual(number, len(outside))
            self.assertEqual(corner(ring, base), rising(ring, outside))
        self.assertGreater(counted, 10)


class SomewhatBeyondTheBounds(unittest.TestCase):
    """The interface's own words: nothing is refused for it."""

    def test_greater_numbers_powers_and_lists(self):
        ring = rings((2,))[0]
        great = 10 ** 70
        f = {(250, 0): (great, 1), (0, 0): (1, great + 1)}
        told = [f] * 110
        self.assertEqual(brought_down(ring, f, told), {})
        self.assertEqual(least_base(ring, [ring.unknown(0)] * 110, [1, 1]), [ring.unknown(0)])
        self.assertIs(is_within(ring, [ring.unknown(0)], [1, 0], {(250, 250): (great, 1)}), True)
        self.assertEqual(corner(ring, [{(60, 0): (1, 1)}, {(0, 2): (1, 1)}])[-1], (59, 1))


if __name__ == "__main__":
    unittest.main()
