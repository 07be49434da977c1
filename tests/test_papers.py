"""Points 34, 35 and 36, and "idealroom/papers.py" of the interface."""

import copy
import random
import unittest

from helper import (
    added, assert_poly, assert_polys, closed_cases, divides, drawn, drawn_cases, is_base_plainly, is_closed_plainly,
    lead, multiplied, refused_as_it_was, rest_of, summed_up, texts, told_as_own)
from idealroom.errors import NoBox, Open
from idealroom.fields import Fractions, Rests
from idealroom.orders import Degrees, Order
from idealroom.papers import holds, paper_of
from idealroom.rings import Ring
from idealroom.texts import read

LETTERS = Ring(2, Fractions(), Order())


def holds_plainly(ring, told, poly, paper):
    """Point 35, condition by condition."""
    def sums(multiples, row, f):
        return len(multiples) == len(row) and summed_up(ring, multiples, row) == f

    if paper[0] == "within":
        return sums(paper[1], told, poly)
    base, from_told, to_told, quotients, rest = paper[1:]
    return (all(base) and len(from_told) == len(base) and all(sums(m, told, f) for m, f in zip(from_told, base))
            and len(to_told) == len(told) and all(sums(m, base, f) for m, f in zip(to_told, told))
            and is_base_plainly(ring, base) and len(quotients) == len(base)
            and added(ring, summed_up(ring, quotients, base), rest) == poly and rest != {}
            and not any(divides(lead(ring, f), term) for f in base for term in rest))


class Within(unittest.TestCase):

    def assert_holds(self, told, poly, multiples, expected):
        with self.subTest(told=told, poly=poly, multiples=multiples):
            told, poly = texts(LETTERS, *told), read(LETTERS, poly)
            self.assertIs(holds(LETTERS, told, poly, ("within", texts(LETTERS, *multiples))), expected)

    def test_multiples_that_sum_up(self):
        self.assert_holds(["x", "y"], "x^2+y^2", ["x", "y"], True)
        self.assert_holds(["x", "y"], "x*y", ["y", "0"], True)
        self.assert_holds(["x", "y"], "x*y", ["1/2*y", "1/2*x"], True)
        self.assert_holds(["x", "0"], "0", ["0", "x"], True)
        self.assert_holds([], "0", [], True)

    def test_multiples_that_do_not(self):
        self.assert_holds(["x", "y"], "x^2+y^2", ["x", "x"], False)
        self.assert_holds(["x", "y"], "x^2+y^2", ["y", "x"], False)
        self.assert_holds(["x", "y"], "x^2+y^2+1", ["x", "y"], False)
        self.assert_holds(["x", "y"], "0", ["x", "y"], False)
        self.assert_holds([], "1", [], False)

    def test_too_few_or_too_many_of_them(self):
        self.assert_holds(["x", "y"], "x^2", ["x"], False)
        self.assert_holds(["x", "y"], "x^2", ["x", "0", "0"], False)
        self.assert_holds(["x", "y"], "x^2", ["x", "0"], True)
        self.assert_holds(["x", "y"], "0", [], False)
        self.assert_holds([], "0", ["0"], False)
        self.assert_holds(["0"], "0", [], False)

    def test_a_row_need_not_be_a_base(self):
        self.assert_holds(["x*y-1", "y^2-1"], "x-y", ["y", "-x"], True)


class Without(unittest.TestCase):
    """A paper that holds, and each condition of point 35 broken by itself."""

    def setUp(self):
        # A nought in the row, so that lists can be too short or too long without another sum.
        self.told = texts(LETTERS, "x*y-1", "y^2-1", "0")
        self.poly = read(LETTERS, "x^2+x+2")
        self.base = texts(LETTERS, "x-y", "y^2-1")
        self.from_told = [texts(LETTERS, "y", "-x", "0"), texts(LETTERS, "0", "1", "0")]
        self.to_told = [texts(LETTERS, "y", "1"), texts(LETTERS, "0", "1"), texts(LETTERS, "0", "0")]
        self.quotients = texts(LETTERS, "x+y+1", "1")
        self.rest = read(LETTERS, "y+3")

    def paper(self):
        return ("without", self.base, self.from_told, self.to_told, self.quotients, self.rest)

    def assert_holds(self, expected):
        paper = self.paper()
        before = copy.deepcopy(paper)
        self.assertIs(holds(LETTERS, self.told, self.poly, paper), expected)
        self.assertIs(bool(holds_plainly(LETTERS, self.told, self.poly, paper)), expected)
        self.assertEqual(paper, before)

    def test_it_holds(self):
        self.assert_holds(True)
        self.assertIs(type(holds(LETTERS, self.told, self.poly, self.paper())), bool)

    def test_another_polynomial(self):
        for text in ("x^2+x+1", "0", "x", "y+3"):
            self.poly = read(LETTERS, text)
            self.assert_holds(False)

    def test_another_row(self):
        for told in (["x*y-1", "y^2-1"], ["x*y-1", "y^2-1", "0", "0"], ["x*y-1", "y^2-1", "1"], ["y^2-1", "x*y-1", "0"],
                     []):
            self.told = texts(LETTERS, *told)
            self.assert_holds(False)

    def test_too_few_lists_from_told(self):
        self.from_told = self.from_told[:1]
        self.assert_holds(False)

    def test_too_many_lists_from_told(self):
        self.from_told = self.from_told + [texts(LETTERS, "0", "1", "0")]
        self.assert_holds(False)

    def test_a_list_from_told_that_is_too_short(self):
        self.from_told[1] = self.from_told[1][:2]
        self.assert_holds(False)

    def test_a_list_from_told_that_is_too_long(self):
        self.from_told[0] = self.from_told[0] + [{}]
        self.assert_holds(False)

    def test_a_list_from_told_that_sums_up_to_something_else(self):
        for place in (0, 1):
            for at in (0, 1):
                kept = copy.deepcopy(self.from_told)
                self.from_told[place][at] = read(LETTERS, "x+y+7")
                self.assert_holds(False)
                self.from_told = kept
        self.assert_holds(True)
        self.from_told = self.from_told[::-1]
        self.assert_holds(False)

    def test_too_few_lists_to_told(self):
        self.to_told = self.to_told[:2]
        self.assert_holds(False)

    def test_too_many_lists_to_told(self):
        self.to_told = self.to_told + [texts(LETTERS, "0", "0")]
        self.assert_holds(False)

    def test_a_list_to_told_that_is_too_short(self):
        self.to_told[2] = self.to_told[2][:1]
        self.assert_holds(False)

    def test_a_list_to_told_that_is_too_long(self):
        self.to_told[0] = self.to_told[0] + [{}]
        self.assert_holds(False)

    def test_a_list_to_told_that_sums_up_to_something_else(self):
        for place in (0, 1, 2):
            for at in (0, 1):
                kept = copy.deepcopy(self.to_told)
                self.to_told[place][at] = read(LETTERS, "x+y+7")
                self.assert_holds(False)
                self.to_told = kept
        self.assert_holds(True)

    def test_too_few_or_too_many_quotients(self):
        # The second quotient is nought for this polynomial, so that the sum is the same without it.
        self.poly, self.quotients, self.rest = read(LETTERS, "x+3"), texts(LETTERS, "1", "0"), read(LETTERS, "y+3")
        self.assert_holds(True)
        self.quotients = self.quotients[:1]
        self.assert_holds(False)
        self.quotients = texts(LETTERS, "1", "0", "0")
        self.assert_holds(False)

    def test_quotients_that_sum_up_to_something_else(self):
        for at in (0, 1):
            kept = list(self.quotients)
            self.quotients[at] = read(LETTERS, "x+7*y")
            self.assert_holds(False)
            self.quotients = kept

    def test_another_rest(self):
        self.rest = read(LETTERS, "y+2")
        self.assert_holds(False)

    def test_a_nought_in_base(self):
        self.base = self.base + [{}]
        self.from_told = self.from_told + [texts(LETTERS, "0", "0", "0")]
        self.to_told = [multiples + [{}] for multiples in self.to_told]
        self.quotients = self.quotients + [{}]
        self.assert_holds(False)

    def test_a_rest_that_is_nought(self):
        self.poly, self.rest = read(LETTERS, "x^2+x-y-1"), {}
        self.assert_holds(False)

    def test_a_first_term_that_goes_into_a_term_of_the_rest(self):
        for poly, quotients, rest in (("x+3", ["0", "0"], "x+3"), ("x^2+x+2", ["x+y+1", "0"], "y^2+y+2"),
                                      ("x^2+x+2", ["0", "0"], "x^2+x+2"), ("x*y^5+1", ["0", "0"], "x*y^5+1")):
            self.poly, self.quotients, self.rest = read(LETTERS, poly), texts(LETTERS, *quotients), read(LETTERS, rest)
            self.assert_holds(False)

    def test_a_base_that_is_none(self):
        one, nought = texts(LETTERS, "1", "0")
        self.told = texts(LETTERS, "x*y-1", "y^2-1")
        self.base = texts(LETTERS, "x*y-1", "y^2-1")
        self.from_told, self.to_told = [[one, nought], [nought, one]], [[one, nought], [nought, one]]
        self.poly, self.quotients, self.rest = read(LETTERS, "x-y"), [nought, nought], read(LETTERS, "x-y")
        self.assert_holds(False)

    def test_a_base_need_not_be_the_least_one(self):
        one, nought, minus_one = texts(LETTERS, "1", "0", "-1")
        self.told = texts(LETTERS, "2*x-2*y", "y^2-1")
        self.base = texts(LETTERS, "2*x-2*y", "y^2-1", "x*y-y^2")
        self.from_told = [[one, nought], [nought, one], [read(LETTERS, "1/2*y"), nought]]
        self.to_told = [[one, nought, nought], [nought, one, nought]]
        self.poly, self.quotients, self.rest = read(LETTERS, "y+1"), [nought] * 3, read(LETTERS, "y+1")
        self.assert_holds(True)
        self.assertIs(holds(LETTERS, self.told, self.poly, ("within", [minus_one, one])), False)

    def test_an_empty_base(self):
        self.told, self.base, self.from_told, self.quotients = [], [], [], []
        self.to_told, self.poly, self.rest = [], read(LETTERS, "x"), read(LETTERS, "x")
        self.assert_holds(True)
        self.told = texts(LETTERS, "0")
        self.assert_holds(False)
        self.to_told = [[]]
        self.assert_holds(True)
        self.told = texts(LETTERS, "x")
        self.assert_holds(False)


class Made(unittest.TestCase):

    def assert_paper(self, ring, told, box, poly, base):
        paper = paper_of(ring, told, box, poly)
        self.assertIs(type(paper), tuple)
        rest = rest_of(ring, poly, base)
        if rest == {}:
            self.assertEqual(len(paper), 2)
            self.assertEqual(paper[0], "within")
            assert_polys(self, ring, paper[1])
            self.assertEqual(len(paper[1]), len(told))
        else:
            self.assertEqual(len(paper), 6)
            self.assertEqual((paper[0], paper[1], paper[5]), ("without", base, rest))
            for part in (paper[2], paper[3]):
                self.assertIs(type(part), list)
                for polys in part:
                    assert_polys(self, ring, polys)
            assert_polys(self, ring, paper[1])
            assert_polys(self, ring, paper[4])
            assert_poly(self, ring, paper[5])
        self.assertIs(holds(ring, told, poly, paper), True)
        self.assertTrue(holds_plainly(ring, told, poly, paper))
        return paper

    def test_written_ones(self):
        told, base = texts(LETTERS, "x*y-1", "y^2-1", "0"), texts(LETTERS, "x-y", "y^2-1")
        for text in ("x", "x^2-1", "0", "1", "x^90-1", "x^91*y-y"):
            self.assert_paper(LETTERS, told, [1, 2], read(LETTERS, text), base)
        self.assert_paper(LETTERS, [], [0, 0], {}, [])
        self.assert_paper(LETTERS, [], [0, 0], read(LETTERS, "x"), [])
        self.assert_paper(LETTERS, [{}, {}], [0, 0], read(LETTERS, "x"), [])
        self.assert_paper(LETTERS, texts(LETTERS, "5"), [0, 0], read(LETTERS, "x"), texts(LETTERS, "1"))

    def test_a_told_one_outside_the_box(self):
        self.assert_paper(LETTERS, texts(LETTERS, "x-y", "x^9-y^9"), [1, 1], read(LETTERS, "x"), texts(LETTERS, "x-y"))

    def test_drawn_ones(self):
        rng = random.Random(1)
        kinds = []
        for ring, told, box, base in closed_cases(2):
            inside = {}
            for f in told:
                inside = added(ring, inside, multiplied(ring, drawn(rng, ring, 2), f))
            for poly in (inside, drawn(rng, ring, 3, [bound + 1 for bound in box])):
                kinds.append(self.assert_paper(ring, told, box, poly, base)[0])
        self.assertGreater(kinds.count("within"), 20)
        self.assertGreater(kinds.count("without"), 20)

    def test_never_do_papers_of_both_kinds_hold(self):
        rng = random.Random(3)
        for ring, told, box, base in closed_cases(4, (1, 2)):
            if not told:
                continue
            inside = multiplied(ring, drawn(rng, ring, 2), told[0])
            other = drawn(rng, ring, 2)
            papers = [paper_of(ring, told, box, poly) for poly in (inside, other)]
            for poly in (inside, other, {}):
                kinds = {paper[0] for paper in papers if holds(ring, told, poly, paper)}
                self.assertLess(len(kinds), 2)

    def test_no_box_then_open(self):
        not_closed = texts(LETTERS, "x*y-1", "y^2-1")
        for box in ([1], [1, 1, 1], [-1, 0], [9, 10]):
            for told in (not_closed, texts(LETTERS, "x"), []):
                refused_as_it_was(self, NoBox, paper_of, LETTERS, told, box, {})
        for text in ("x-y", "0", "x*y-1", "1"):
            refused_as_it_was(self, Open, paper_of, LETTERS, not_closed, [1, 1], read(LETTERS, text))

    def test_open_for_drawn_ones(self):
        for ring, told, box in drawn_cases(5, (1, 2)):
            if not is_closed_plainly(ring, told, box):
                refused_as_it_was(self, Open, paper_of, ring, told, box, ring.unknown(0))


class WhatIsHandedInAndTold(unittest.TestCase):
    """Point 2."""

    def test_it_is_the_askers_own(self):
        rng = random.Random(6)
        for ring, told, box, base in closed_cases(7, (1, 2)):
            poly = drawn(rng, ring)
            paper = told_as_own(self, paper_of, ring, told + [{}, {}], box, poly)
            told_as_own(self, holds, ring, told + [{}, {}], poly, paper)

    def test_where_what_is_told_equals_what_was_handed_in(self):
        told = texts(LETTERS, "x", "y")
        for poly in texts(LETTERS, "x", "1", "0", "x+1"):
            told_as_own(self, paper_of, LETTERS, told, [1, 1], poly)

    def test_the_same_list_handed_in_several_times(self):
        nought = {}
        told, lists = texts(LETTERS, "0", "0"), [nought, nought]
        self.assertIs(holds(LETTERS, told, {}, ("within", lists)), True)
        self.assertEqual(lists, [{}, {}])

    def test_arguments_by_their_names(self):
        ring = Ring(1, Rests(3), Degrees())
        paper = paper_of(ring=ring, told=texts(ring, "x"), box=[1], poly=read(ring, "x^2"))
        self.assertEqual(paper, ("within", texts(ring, "x")))
        self.assertIs(holds(ring=ring, told=texts(ring, "x"), poly=read(ring, "x^2"), paper=paper), True)


if __name__ == "__main__":
    unittest.main()
