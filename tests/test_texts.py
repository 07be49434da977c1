"""Point 13, and "idealroom/texts.py" of the interface."""

import random
import unittest
from fractions import Fraction

from helper import (
    added, assert_poly, drawn, drawn_number, loose_number, multiplied, refused_as_it_was, rings, texts, tight,
    told_as_own)
from idealroom.errors import NoOver, NoText
from idealroom.fields import Fractions, Rests
from idealroom.orders import Degrees, Order, Tails, Weights
from idealroom.rings import Ring
from idealroom.shows import shown
from idealroom.texts import read

PLANE = Ring(2, Fractions(), Degrees())
SEVEN = Ring(2, Rests(7), Degrees())
FOUR = Ring(4, Fractions(), Order())


class Read(unittest.TestCase):

    def assert_read(self, ring, text, f):
        with self.subTest(text=text):
            told = read(ring, text)
            assert_poly(self, ring, told)
            self.assertEqual(told, tight(ring, f))

    def assert_refused(self, ring, text, error=NoText):
        with self.subTest(text=text):
            refused_as_it_was(self, error, read, ring, text)


class Sums(Read):

    def test_parts_with_their_signs(self):
        self.assert_read(PLANE, "x+y", {(1, 0): 1, (0, 1): 1})
        self.assert_read(PLANE, "x-y", {(1, 0): 1, (0, 1): -1})
        self.assert_read(PLANE, "-x+y", {(1, 0): -1, (0, 1): 1})
        self.assert_read(PLANE, "-x-y-1", {(1, 0): -1, (0, 1): -1, (0, 0): -1})
        self.assert_read(PLANE, "x-y+x-y+3-x", {(1, 0): 1, (0, 1): -2, (0, 0): 3})
        self.assert_read(SEVEN, "x-y-3", {(1, 0): 1, (0, 1): 6, (0, 0): 4})

    def test_the_sign_ahead_turns_its_part_alone(self):
        self.assert_read(PLANE, "-x*y+x", {(1, 1): -1, (1, 0): 1})
        self.assert_read(PLANE, "-2*3+x", {(0, 0): -6, (1, 0): 1})
        self.assert_read(PLANE, "-(x+y)*x+y", {(2, 0): -1, (1, 1): -1, (0, 1): 1})

    def test_parts_that_cancel(self):
        self.assert_read(PLANE, "x-x", {})
        self.assert_read(PLANE, "0", {})
        self.assert_read(PLANE, "-0", {})
        self.assert_read(PLANE, "(x+y)*(x-y)-x*x+y^2", {})
        self.assert_read(SEVEN, "3*x+4*x", {})
        self.assert_read(SEVEN, "7*x+y", {(0, 1): 1})

    def test_signs_where_none_may_stand(self):
        for text in ("+x", "+", "-", "--x", "x+", "x-", "x++y", "x+-y", "x-+y", "x--y", "x*-y", "x*+y", "-+x", "*x",
                     "x*", "x**y", "(+x)", "(--x)", "x+(+y)", "2*-3", "-"):
            self.assert_refused(PLANE, text)


class Factors(Read):

    def test_products(self):
        self.assert_read(PLANE, "x*y", {(1, 1): 1})
        self.assert_read(PLANE, "x*x*y*x", {(3, 1): 1})
        self.assert_read(PLANE, "2*x*3*y*1/6", {(1, 1): 1})
        self.assert_read(PLANE, "x*2", {(1, 0): 2})
        self.assert_read(PLANE, "0*x", {})
        self.assert_read(PLANE, "(x+1)*(x-1)", {(2, 0): 1, (0, 0): -1})
        self.assert_read(PLANE, "2*(x+y)*x", {(2, 0): 2, (1, 1): 2})
        self.assert_read(PLANE, "(x)*(y)", {(1, 1): 1})

    def test_factors_without_the_sign_between(self):
        for text in ("xy", "2x", "x2", "x(y)", "(x)y", "(x)(y)", "2(x)", "(x)2", "x y", "2 x", "xx", "x^2y", "x^2(y)"):
            self.assert_refused(PLANE, text)

    def test_letters_of_the_ring(self):
        for many, text in ((1, "x"), (2, "y"), (3, "z"), (4, "t")):
            for other in (1, 2, 3, 4):
                ring = Ring(other, Rests(5), Tails())
                if many <= other:
                    term = tuple(1 if place == many - 1 else 0 for place in range(other))
                    self.assert_read(ring, text, {term: 1})
                else:
                    self.assert_refused(ring, text)
                    self.assert_refused(ring, "x+" + text)

    def test_other_letters_and_signs(self):
        for text in ("X", "Y", "T", "a", "u", "x'", "x=y", "x,y", "x;", "[x]", "{x}", "x_1", "1.5", "x!", "\"x\"", "x\\y",
                     "~", "#", "$", "&", "<", ">", "?", "@", "`", "|", ":", "x:y", "\tx", "x\n", "x\ty", "\n", "\u00b2",
                     "x\u00b2", "\u0663", "x\u00a0+y", "\uff58", "x^\u0662", "1\u0660", "\x00", "x\x7f", "xy^2", "e", "1e3"):
            self.assert_refused(FOUR, text)


class Powers(Read):

    def test_of_one_and_two_figures(self):
        self.assert_read(PLANE, "x^2", {(2, 0): 1})
        self.assert_read(PLANE, "x^0", {(0, 0): 1})
        self.assert_read(PLANE, "x^1*y^01", {(1, 1): 1})
        self.assert_read(PLANE, "x^00*y^07", {(0, 7): 1})
        self.assert_read(PLANE, "x^99*y^99*x^99", {(198, 99): 1})
        self.assert_read(PLANE, "3*y^10-x^9", {(0, 10): 3, (9, 0): -1})
        self.assert_read(FOUR, "x^1*y^2*z^3*t^4", {(1, 2, 3, 4): 1})

    def test_of_none_or_three_figures(self):
        for text in ("x^", "x^123", "x^100", "x^000", "x^001", "x^+y", "x^*y", "x^)", "y*x^", "x^1 0 0"):
            self.assert_refused(PLANE, text)

    def test_of_what_is_no_letter_or_no_plain_power(self):
        for text in ("2^3", "(x)^2", "(x+y)^2", "x^2^3", "x^y", "x^-1", "x^(2)", "x^1/2", "^2", "x^/2", "x**2", "1/2^2"):
            self.assert_refused(PLANE, text)


class Numbers(Read):

    def test_whole_ones_and_fractions(self):
        self.assert_read(PLANE, "12", {(0, 0): 12})
        self.assert_read(PLANE, "007", {(0, 0): 7})
        self.assert_read(PLANE, "6/4", {(0, 0): Fraction(3, 2)})
        self.assert_read(PLANE, "0/4", {})
        self.assert_read(PLANE, "-1/2*x", {(1, 0): Fraction(-1, 2)})
        self.assert_read(PLANE, "x-01/02", {(1, 0): 1, (0, 0): Fraction(-1, 2)})
        self.assert_read(SEVEN, "1/2", {(0, 0): 4})
        self.assert_read(SEVEN, "15/8*x", {(1, 0): 1})

    def test_of_30_and_31_figures(self):
        for figures in ("9" * 30, "0" * 29 + "5", "1" + "0" * 29):
            for ring in (PLANE, SEVEN):
                self.assert_read(ring, figures, {(0, 0): int(figures)})
                self.assert_read(ring, "x*" + figures, {(1, 0): int(figures)})
                for long in ("0" + figures, figures + "0", "1/0" + figures, "0" + figures + "/1", figures + "0/2",
                             "x+0" + figures):
                    self.assert_refused(ring, long)
        self.assert_read(PLANE, "9" * 30 + "/" + "8" * 30, {(0, 0): Fraction(9, 8)})

    def test_strokes_where_none_may_stand(self):
        for text in ("/2", "2/", "1/2/3", "x/2", "2/x", "1//2", "1/-2", "(1)/2", "1/(2)", "/", "1/+2", "1/2/0"):
            self.assert_refused(PLANE, text)

    def test_nought_below(self):
        for text in ("1/0", "0/0", "x+1/0", "1/0*x", "0*1/0", "x*(y-1/00)", "1/0-1/0", "(1/0)", "-5/000+x", "x-x*1/0"):
            self.assert_refused(PLANE, text, NoOver)
            self.assert_refused(SEVEN, text, NoOver)
        for text in ("1/7", "0/7", "x+7/14", "0*(x-3/21)", "7/7", "1/" + "7" * 30):
            self.assert_refused(SEVEN, text, NoOver)
        self.assert_read(PLANE, "7/14", {(0, 0): Fraction(1, 2)})

    def test_no_text_goes_ahead_of_nought_below(self):
        for text in ("1/0+", "1/0x", "(1/0", "1/0)", "+1/0", "1/0*z", "1/0+x^123", "1/0+" + "1" * 31, "1/0/0", "x^*1/0",
                     "(((((((((1/0)))))))))", "1/0+A", "1/0**x", "1/0^2", "1/0 \t", "1/0" + " " * 298):
            self.assert_refused(PLANE, text)
            self.assert_refused(SEVEN, text.replace("0", "7", 1))


class Brackets(Read):

    def test_a_sum_in_brackets(self):
        self.assert_read(PLANE, "(x)", {(1, 0): 1})
        self.assert_read(PLANE, "(-x)", {(1, 0): -1})
        self.assert_read(PLANE, "-(-x)", {(1, 0): 1})
        self.assert_read(PLANE, "x-(y-(x-(y-1)))", {(1, 0): 2, (0, 1): -2, (0, 0): 1})
        self.assert_read(PLANE, "x*(-y)", {(1, 1): -1})
        self.assert_read(PLANE, "(x+y)*(x+y)", {(2, 0): 1, (1, 1): 2, (0, 2): 1})

    def test_to_a_depth_of_8_and_of_9(self):
        self.assert_read(PLANE, "(" * 8 + "x" + ")" * 8, {(1, 0): 1})
        self.assert_refused(PLANE, "(" * 9 + "x" + ")" * 9)
        self.assert_refused(PLANE, "(" * 100 + "x" + ")" * 100)
        deep = "x"
        for _ in range(8):
            deep = "(1+" + deep + "*y)"
        self.assert_read(PLANE, deep, {**{(0, power): 1 for power in range(8)}, (1, 8): 1})
        self.assert_refused(PLANE, "2*(" + deep + "-y)")

    def test_closed_ones_ahead_do_not_make_room_for_deeper_ones(self):
        for ahead in ("(x)+", "(x)*(x)*", "((x))-", "((x)*(x)+(x))*", "((((((((x))))))))+"):
            self.assert_refused(PLANE, ahead + "(" * 9 + "x" + ")" * 9)
            self.assert_refused(PLANE, "(" + ahead + "(" * 8 + "x" + ")" * 8 + ")")
        self.assert_read(PLANE, "(x)+(" + "(" * 7 + "x" + ")" * 8, {(1, 0): 2})

    def test_many_that_stand_beside_one_another(self):
        self.assert_read(PLANE, "+".join(["(x)"] * 50), {(1, 0): 50})
        self.assert_read(PLANE, "*".join(["(x)"] * 50), {(50, 0): 1})
        self.assert_read(PLANE, "+".join(["((((((((x))))))))"] * 9), {(1, 0): 9})

    def test_that_are_not_closed_or_not_opened_or_empty(self):
        for text in ("(", ")", "()", "(x", "x)", "((x)", "(x))", ")x(", "x*()", "x+(", "(x+)", "(*x)", "(x)*", "(x)+)"):
            self.assert_refused(PLANE, text)


class BlanksAndLength(Read):

    def test_blanks_are_taken_out_wherever_they_stand(self):
        self.assert_read(PLANE, " x ", {(1, 0): 1})
        self.assert_read(PLANE, "  x   +  y  ", {(1, 0): 1, (0, 1): 1})
        self.assert_read(PLANE, "1 2 / 2 4 * x ^ 1 2", {(12, 0): Fraction(1, 2)})
        self.assert_read(PLANE, "- ( x - y ) * 1 0", {(1, 0): -10, (0, 1): 10})
        self.assert_read(PLANE, " ".join("9" * 30), {(0, 0): 10 ** 30 - 1})
        self.assert_refused(PLANE, " ".join("9" * 31))

    def test_an_empty_text_and_blanks_alone(self):
        for ring in (PLANE, SEVEN, FOUR):
            for text in ("", " ", " " * 300, " " * 301):
                self.assert_refused(ring, text)

    def test_of_300_and_301_signs(self):
        self.assert_read(PLANE, "+".join(["x"] * 150) + " ", {(1, 0): 150})
        self.assert_read(PLANE, "-" + "-".join(["x"] * 150), {(1, 0): -150})
        self.assert_refused(PLANE, "+".join(["x"] * 151))
        self.assert_read(PLANE, " " * 299 + "x", {(1, 0): 1})
        self.assert_read(PLANE, "x" + " " * 299, {(1, 0): 1})
        self.assert_refused(PLANE, " " * 300 + "x")
        self.assert_refused(PLANE, "x" + " " * 300)
        self.assert_refused(PLANE, "x" + " " * 149 + "+" + " " * 149 + "y")
        self.assert_refused(PLANE, " " * 298 + "1/0", NoText)
        self.assert_refused(PLANE, " " * 297 + "1/0", NoOver)

    def test_far_too_long(self):
        self.assert_refused(PLANE, "x+" * 5000 + "x")


class Drawn(Read):

    def drawn_sum(self, rng, ring, depth):
        """A text, and the polynomial that it must be read as."""
        text, total = "", {}
        for at in range(rng.randint(1, 3)):
            sign = rng.choice(["-", ""] if at == 0 else ["-", "+"])
            part, f = self.drawn_part(rng, ring, depth)
            text += sign + part
            total = added(ring, total, f, -1 if sign == "-" else 1)
        return text, total

    def drawn_part(self, rng, ring, depth):
        texts, product = [], tight(ring, {(0,) * ring.many: 1})
        for _ in range(rng.randint(1, 3)):
            text, f = self.drawn_factor(rng, ring, depth)
            texts.append(text)
            product = multiplied(ring, product, f)
        return "*".join(texts), product

    def drawn_factor(self, rng, ring, depth):
        kind = rng.choice(["number", "letter", "power", "sum"])
        if kind == "sum" and depth > 0:
            text, f = self.drawn_sum(rng, ring, depth - 1)
            return "(" + text + ")", f
        at, power = rng.randrange(ring.many), rng.randint(0, 12)
        if kind == "letter":
            return "xyzt"[at], tight(ring, {tuple(int(place == at) for place in range(ring.many)): 1})
        if kind == "power":
            return f"{'xyzt'[at]}^{power}", tight(ring, {tuple(power * (place == at) for place in range(ring.many)): 1})
        top, bottom = rng.randint(0, 20), rng.choice([1, 11, 13])
        text = f"{top}" if bottom == 1 else f"{top}/{bottom}"
        return text, tight(ring, {(0,) * ring.many: Fraction(top, bottom)})

    def test_drawn_texts(self):
        rng = random.Random(14)
        for ring in rings():
            for _ in range(6):
                text, f = self.drawn_sum(rng, ring, 2)
                if len(text) <= 300:
                    self.assertEqual(read(ring, text), f, text)
                    blanked = "".join(sign + " " * rng.choice([0, 0, 0, 1]) for sign in text)
                    if len(blanked) <= 300:
                        self.assertEqual(read(ring, blanked), f, blanked)

    def test_what_is_shown_is_read_again(self):
        rng = random.Random(15)
        for ring in rings():
            for _ in range(4):
                f = drawn(rng, ring, 7, (12,) * ring.many)
                self.assertEqual(read(ring, shown(ring, f)), f)

    def test_great_numbers_are_shown_and_read_again(self):
        rng = random.Random(16)
        for ring in rings():
            f = drawn(rng, ring, 3, (99,) * ring.many)
            if ring.field.prime == 0:
                f = {term: (number[0] * (10 ** 28) + 1, 10 ** 29) for term, number in f.items()}
            self.assertEqual(read(ring, shown(ring, f)), f)

    def test_the_numbers_of_drawn_constants(self):
        rng = random.Random(17)
        for ring in rings():
            number = drawn_number(rng, ring.field)
            if number != ring.field.nought():
                self.assertEqual(loose_number(read(ring, shown(ring, ring.constant(number)))[(0,) * ring.many]),
                                 loose_number(number))


class WhatIsTold(unittest.TestCase):
    """Point 2."""

    def test_it_is_the_askers_own(self):
        for ring in rings((1, 2)):
            for text in ("x", "0", "x*x-3/5", "(x+1)*(x-1)", "1"):
                told_as_own(self, read, ring, text)

    def test_what_is_refused_changes_nothing(self):
        before = read(PLANE, "x+y")
        for text in ("x+", "1/0", "((x)"):
            with self.assertRaises((NoText, NoOver)):
                read(PLANE, text)
        self.assertEqual(read(PLANE, "x+y"), before)
        self.assertEqual((PLANE.many, PLANE.letters()), (2, "xy"))

    def test_arguments_by_their_names(self):
        self.assertEqual(read(ring=Ring(1, Rests(3), Weights([2])), text="x-1"), {(1,): 1, (0,): 2})


if __name__ == "__main__":
    unittest.main()
