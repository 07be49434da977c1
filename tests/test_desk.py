"""Points 37 and 38, and "idealroom/desk.py" of the interface."""

import random
import unittest

from helper import drawn, drawn_row
from idealroom.completing import least_base
from idealroom.corners import how_many
from idealroom.desk import Desk
from idealroom.errors import (
    Endless, NoBox, NoLine, NoOrder, NoOver, NoPrime, NoRing, NoText, Open, RoomError)
from idealroom.fields import Fractions, Rests
from idealroom.orders import Degrees, Order, Tails, Weights
from idealroom.rings import Ring
from idealroom.shows import shown
from idealroom.taking import taken_out
from idealroom.texts import read
from idealroom.within import looked_up


def desk_of(*lines):
    desk = Desk()
    for line in lines:
        desk.said(line)
    return desk


class DeskTest(unittest.TestCase):

    def assert_said(self, desk, line, answer):
        with self.subTest(line=line):
            told = desk.said(line)
            self.assertIs(type(told), str)
            self.assertEqual(told, answer)

    def assert_all(self, *pairs):
        """Lines and their answers, told to a new desk."""
        desk = Desk()
        for line, answer in pairs:
            self.assert_said(desk, line, answer)
        return desk

    def assert_refused(self, desk, line, error):
        """Refused with just this error; ring, box and row stay as they were."""
        with self.subTest(line=line):
            before = self.state(desk)
            with self.assertRaises(RoomError) as caught:
                desk.said(line)
            self.assertIs(type(caught.exception), error)
            if error is NoLine:
                self.assertEqual(caught.exception.line, line)
            self.assertEqual(self.state(desk), before)

    def state(self, desk):
        """What can be seen of the ring, the box and the row by asking."""
        told = []
        for line in ("rows", "base", "count", "out 1", "out 2", "out 3", "ask x", "ask 1", "ask y", "ask z", "ask t",
                     "ask 1/2", "ask 1/3", "ask x^9*y^9*z^9*t^9"):
            try:
                told.append(desk.said(line))
            except RoomError as refusal:
                told.append(type(refusal))
        return told


class AtFirst(DeskTest):

    def test_two_unknowns_the_fractions_by_degrees_and_an_empty_row(self):
        desk = Desk()
        self.assert_said(desk, "rows", "none")
        self.assert_said(desk, "base", "none")
        self.assert_said(desk, "take x + y^2 - 1/2", "1")
        self.assert_said(desk, "rows", "y^2 + x - 1/2")
        self.assert_refused(desk, "take z", NoText)
        self.assert_refused(desk, "out 1", NoOrder)

    def test_the_box_is_2_for_each_unknown(self):
        self.assert_said(desk_of("take x^2*y^2"), "base", "x^2*y^2")
        self.assert_refused(desk_of("take x^3"), "base", Open)
        self.assert_refused(desk_of("take y^3"), "base", Open)

    def test_two_desks_stand_beside_one_another(self):
        one, other = Desk(), Desk()
        one.said("take x")
        other.said("ring 1 rests 5 letters")
        other.said("take 3*x")
        other.said("take x+1")
        self.assertEqual((one.said("rows"), other.said("rows")), ("x", "3*x; x + 1"))


class TheRing(DeskTest):

    def test_fields_and_orders(self):
        for line, answer in (
                ("ring 2 fractions letters", "-x*z + 5*x"), ("ring 3 fractions letters", "-x*z + 5*x - 2*y^2 + 3*z^3 - 4"),
                ("ring 3 fractions degrees", "3*z^3 - x*z - 2*y^2 + 5*x - 4"),
                ("ring 3 fractions tails", "3*z^3 - 2*y^2 - x*z + 5*x - 4"),
                ("ring 3 fractions weights 0 1 0", "-2*y^2 - x*z + 5*x + 3*z^3 - 4"),
                ("ring 3 rests 7 weights 0 0 1", "3*z^3 + 6*x*z + 5*x + 5*y^2 + 3"),
                ("ring 3 rests 2 tails", "z^3 + x*z + x"), ("ring 4 rests 9973 letters", "9972*x*z + 5*x + 9971*y^2 + 3*z^3 + 9969")):
            desk = Desk()
            self.assert_said(desk, line, "ready")
            if line.startswith("ring 2"):
                self.assert_refused(desk, "take -x*z+5*x-2*y^2+3*z^3-4", NoText)
            else:
                desk.said("take -x*z+5*x-2*y^2+3*z^3-4")
                self.assert_said(desk, "rows", answer)

    def test_each_number_of_unknowns(self):
        for many in (1, 2, 3, 4):
            for field in ("fractions", "rests 3"):
                for order in ("letters", "degrees", "tails", "weights" + " 1" * many):
                    desk = desk_of(f"ring {many} {field} {order}")
                    for at, letter in enumerate("xyzt"):
                        if at < many:
                            self.assert_said(desk, "take " + letter, str(at + 1))
                        else:
                            self.assert_refused(desk, "take " + letter, NoText)

    def test_a_ring_set_anew_empties_the_row_and_sets_the_box(self):
        desk = desk_of("box 5 5", "take x^5*y^5", "take x")
        self.assert_said(desk, "ring 2 fractions degrees", "ready")
        self.assert_said(desk, "rows", "none")
        self.assert_said(desk, "take x^2*y^2", "1")
        self.assert_said(desk, "base", "x^2*y^2")
        self.assert_said(desk, "take x^3", "2")
        self.assert_refused(desk, "base", Open)
        self.assert_said(desk, "ring 4 rests 2 letters", "ready")
        self.assert_said(desk, "rows", "none")
        self.assert_said(desk, "take x^2*y^2*z^2*t^2+1", "1")
        self.assert_said(desk, "base", "x^2*y^2*z^2*t^2 + 1")
        self.assert_said(desk, "drop 1", "0")
        self.assert_said(desk, "take t^3", "1")
        self.assert_refused(desk, "base", Open)
        self.assert_said(desk, "ring 1 fractions letters", "ready")
        self.assert_said(desk, "take x^2", "1")
        self.assert_said(desk, "base", "x^2")
        self.assert_said(desk, "take x^3-1", "2")
        self.assert_refused(desk, "base", Open)

    def test_lines_that_are_not_well_formed(self):
        desk = desk_of("take x", "box 3 3")
        for line in ("ring", "ring ", "ring 2", "ring 2 fractions", "ring 2 rests", "ring 2 rests 7", "ring 2 letters",
                     "ring fractions letters", "ring 2 fractions letters ", "ring  2 fractions letters",
                     " ring 2 fractions letters", "ring 2  fractions letters", "ring 2 fractions  letters",
                     "ring 2 fractions letters letters", "ring 2 fractions letters 1", "ring 2 fractions 7 letters",
                     "ring 2 rests letters", "ring 2 rests 7 7 letters", "ring 2 rests -7 letters", "ring -2 fractions letters",
                     "ring +2 fractions letters", "ring 2.0 fractions letters", "ring two fractions letters",
                     "ring 2 Fractions letters", "ring 2 fractions Letters", "Ring 2 fractions letters", "rings 2 fractions letters",
                     "ring 2 fractions letter", "ring 2 fraction letters", "ring 2 fractions weights", "ring 2 fractions weights 1",
                     "ring 2 fractions weights 1 2 3", "ring 2 fractions weights 1 -2", "ring 2 fractions weights 1 x",
                     "ring 2 fractions weights 1 2 ", "ring 2 fractions weights  1 2", "ring 2 fractions degrees 1 2",
                     "ring 0 fractions weights 0", "ring 0 fractions weights ", "ring 5 fractions weights 1 2 3 4",
                     "ring 5 fractions weights 1 2 3 4 5 6", "ring 2 rests 6 weights 1", "ring 9 rests 6 order",
                     "ring " + "9" * 30 + " fractions weights 1", "ring 2 fractions", "ring 2 7 letters", "ring 2 rests  letters",
                     "ring 2 fractions weights 1 2 letters", "ring\t2 fractions letters"):
            self.assert_refused(desk, line, NoLine)

    def test_no_prime_then_no_ring(self):
        desk = desk_of("take x", "box 3 3")
        for prime in ("0", "1", "4", "9", "9974", "10007", "9" * 30):
            for many in ("0", "1", "4", "5", "9" * 30):
                self.assert_refused(desk, f"ring {many} rests {prime} letters", NoPrime)
        self.assert_refused(desk, "ring 2 rests 6 weights 1 2", NoPrime)
        self.assert_refused(desk, "ring 0 rests 6 weights", NoPrime)
        for many in ("0", "5", "00", "05", "6", "9" * 30):
            for field in ("fractions", "rests 7"):
                self.assert_refused(desk, f"ring {many} {field} letters", NoRing)
                self.assert_refused(desk, f"ring {many} {field} tails", NoRing)
        self.assert_refused(desk, "ring 0 fractions weights", NoRing)
        self.assert_refused(desk, "ring 5 fractions weights 1 2 3 4 5", NoRing)
        self.assert_refused(desk, "ring 6 rests 7 weights 1 2 3 4 5 6", NoRing)


class Numbers(DeskTest):

    def test_of_30_and_31_figures(self):
        desk = desk_of("take x")
        nought, one, two, seven = ["0" * 29 + figure for figure in "0127"]
        self.assert_said(desk, f"ring {two} rests {seven} weights {one} {'9' * 30}", "ready")
        self.assert_said(desk, f"box {two} {nought}", "ready")
        desk.said("take y")
        self.assert_refused(desk, "base", Open)
        self.assert_said(desk, f"box {nought} {one}", "ready")
        self.assert_said(desk, "base", "y")
        self.assert_said(desk, f"drop {one}", "0")
        self.assert_said(desk_of("ring 2 fractions letters"), f"out {one}", "none")
        desk.said("take x")
        for line in (f"ring 0{two} fractions letters", f"ring 2 rests 0{seven} letters", f"ring 2 fractions weights 0{one} 1",
                     f"ring 2 fractions weights 1 {'1' * 31}", f"box 0{two} 1", f"box 1 0{two}", f"drop 0{one}", f"out 0{one}"):
            self.assert_refused(desk, line, NoLine)

    def test_noughts_ahead_change_nothing(self):
        self.assert_all(("ring 02 rests 007 weights 01 000", "ready"), ("box 0003 02", "ready"), ("take 8*x", "1"),
                        ("drop 001", "0"), ("take y", "1"), ("out 01", "y"))

    def test_what_is_no_whole_number(self):
        desk = desk_of("ring 2 fractions letters", "take x", "take y")
        for word in ("-1", "+1", "1.", "1/1", "one", "x", "", "1_0", "0x1", "1e0", "(1)", "\u0661", "\u00b9"):
            for line in (f"drop {word}", f"out {word}", f"box {word} 1", f"box 1 {word}"):
                self.assert_refused(desk, line, NoLine)


class TheBox(DeskTest):

    def test_it_is_set(self):
        desk = desk_of("take x^3*y")
        self.assert_refused(desk, "base", Open)
        self.assert_said(desk, "box 3 1", "ready")
        self.assert_said(desk, "base", "x^3*y")
        self.assert_said(desk, "box 2 1", "ready")
        self.assert_refused(desk, "base", Open)
        self.assert_said(desk, "box 9 9", "ready")
        self.assert_said(desk, "base", "x^3*y")
        self.assert_said(desk, "rows", "x^3*y")

    def test_another_count_of_numbers(self):
        for many in (1, 2, 3, 4):
            desk = desk_of(f"ring {many} fractions letters", "take x")
            for count in range(7):
                line = "box" + " 1" * count
                if count == many:
                    self.assert_said(desk, line, "ready")
                else:
                    self.assert_refused(desk, line, NoLine)

    def test_lines_that_are_not_well_formed(self):
        desk = desk_of("take x")
        for line in ("box", "box ", "box 1", "box 1 ", "box 1 1 ", "box  1 1", "box 1  1", " box 1 1", "box 1,1", "Box 1 1",
                     "box 1 -1", "boxes 1 1", "box 100", "box 99 99 99", "box 1 y", "box1 1"):
            self.assert_refused(desk, line, NoLine)

    def test_no_box(self):
        desk = desk_of("take x^2")
        for line in ("box 9 10", "box 100 0", "box 0 100", "box " + "9" * 30 + " 0", "box 10 9"):
            self.assert_refused(desk, line, NoBox)
        self.assert_said(desk, "box 99 0", "ready")
        self.assert_said(desk, "base", "x^2")
        desk = desk_of("ring 1 fractions letters")
        self.assert_refused(desk, "box 100", NoBox)
        self.assert_said(desk, "box 99", "ready")


class TakeDropAndRows(DeskTest):

    def test_the_row_grows_and_lessens(self):
        self.assert_all(
            ("take x", "1"), ("take y", "2"), ("take x", "3"), ("rows", "x; y; x"), ("drop 2", "2"), ("rows", "x; x"),
            ("take y^2", "3"), ("drop 1", "2"), ("rows", "x; y^2"), ("drop 2", "1"), ("rows", "x"), ("drop 1", "0"),
            ("rows", "none"), ("take 0", "1"), ("rows", "0"), ("take 2*x-3/2", "2"), ("rows", "0; 2*x - 3/2"))

    def test_the_last_of_twelve(self):
        desk = Desk()
        for at in range(12):
            self.assert_said(desk, f"take x^{at}", str(at + 1))
        self.assert_said(desk, "drop 12", "11")
        self.assert_said(desk, "drop 10", "10")
        self.assert_said(desk, "rows", "1; x; x^2; x^3; x^4; x^5; x^6; x^7; x^8; x^10")

    def test_the_text_is_all_the_lines_further_signs(self):
        self.assert_all(("take x + y", "1"), ("take   x", "2"), ("take x  ", "3"), ("take  ( x - 1 ) * 2 ", "4"),
                        ("rows", "x + y; x; x; 2*x - 2"))

    def test_take_and_ask_alone_and_with_one_blank_behind(self):
        desk = desk_of("take x")
        for word in ("take", "ask"):
            self.assert_refused(desk, word, NoLine)
            self.assert_refused(desk, word + " ", NoText)
            self.assert_refused(desk, word + "  ", NoText)
            self.assert_refused(desk, " " + word + " x", NoLine)
            self.assert_refused(desk, word + "x", NoLine)
            self.assert_refused(desk, word.upper() + " x", NoLine)
            self.assert_refused(desk, word + "s x", NoLine)
            self.assert_refused(desk, word + "\tx", NoLine)

    def test_no_text_and_no_over(self):
        desk = desk_of("ring 2 rests 7 letters", "take x")
        for word in ("take", "ask"):
            for text in ("z", "x+", "x x", "take x", "X", "(x", "x^100", "1" * 31, "1/7+"):
                self.assert_refused(desk, f"{word} {text}", NoText)
            for text in ("1/7", "x+3/0", "0*2/14"):
                self.assert_refused(desk, f"{word} {text}", NoOver)

    def test_a_long_line(self):
        text = "+".join(["x"] * 148)
        desk = Desk()
        self.assert_said(desk, "take " + text, "1")
        self.assert_said(desk, "rows", "148*x")
        self.assert_said(desk, "take " + " " * 294 + "y", "2")
        self.assert_said(desk, "rows", "148*x; y")

    def test_a_k_of_drop_that_the_row_has_not(self):
        desk = desk_of("take x", "take y")
        for k in ("0", "3", "00", "9" * 30):
            self.assert_refused(desk, "drop " + k, NoLine)
        self.assert_refused(Desk(), "drop 1", NoLine)
        self.assert_refused(Desk(), "drop 0", NoLine)

    def test_lines_that_are_not_well_formed(self):
        desk = desk_of("take x", "take y")
        for line in ("drop", "drop ", "drop 1 ", "drop  1", " drop 1", "drop 1 1", "drop -1", "drop x", "drops 1", "Drop 1",
                     "rows ", " rows", "rows 1", "row", "Rows", "rows rows", "", " ", "  ", "x", "help", "quit", "take\n"):
            self.assert_refused(desk, line, NoLine)


class BaseAskOutAndCount(DeskTest):

    def test_the_base(self):
        self.assert_all(
            ("base", "none"), ("take x*y-1", "1"), ("take y^2-1", "2"), ("base", "y^2 - 1; x - y"), ("take 0", "3"),
            ("base", "y^2 - 1; x - y"), ("take 2", "4"), ("base", "1"))
        self.assert_all(("take 0", "1"), ("base", "none"))
        self.assert_all(("ring 2 fractions letters", "ready"), ("take x*y-1", "1"), ("take y^2-1", "2"),
                        ("base", "x - y; y^2 - 1"))

    def test_asked(self):
        self.assert_all(
            ("ask 0", "within"), ("ask x - 1/2", "without x - 1/2"), ("take x*y-1", "1"), ("take y^2-1", "2"),
            ("ask x-y", "within"), ("ask x", "without y"), ("ask x^9*y^8", "without y"), ("ask  -3 * x - 1", "without -3*y - 1"),
            ("ask x^9*y^9-1", "within"), ("ask 1/2", "without 1/2"), ("rows", "x*y - 1; y^2 - 1"))
        self.assert_all(("take 1", "1"), ("ask x+y", "within"))

    def test_out(self):
        self.assert_all(
            ("ring 3 fractions letters", "ready"), ("out 1", "none"), ("take x-y-z", "1"), ("take y^2-z", "2"),
            ("take z^2-1", "3"), ("out 1", "y^2 - z; z^2 - 1"), ("out 2", "z^2 - 1"), ("rows", "x - y - z; y^2 - z; z^2 - 1"))
        self.assert_all(("ring 2 rests 3 weights 1 0", "ready"), ("take x", "1"), ("out 1", "none"), ("take y", "2"), ("out 1", "y"))

    def test_out_is_refused(self):
        desk = desk_of("ring 3 fractions letters", "take x")
        for k in ("0", "3", "4", "00", "9" * 30):
            self.assert_refused(desk, "out " + k, NoOrder)
        for line in ("out", "out ", "out 1 ", "out  1", "out 1 2", "out -1", "out x", "Out 1", "outs 1", " out 1"):
            self.assert_refused(desk, line, NoLine)
        for order in ("degrees", "tails", "weights 1 1 1", "weights 0 0 1"):
            self.assert_refused(desk_of("ring 3 fractions " + order), "out 1", NoOrder)
        self.assert_refused(desk_of("ring 1 fractions letters"), "out 1", NoOrder)

    def test_no_order_goes_ahead_of_open(self):
        self.assert_refused(desk_of("take x^3"), "out 1", NoOrder)
        self.assert_refused(desk_of("ring 2 fractions letters", "take x^3"), "out 2", NoOrder)
        self.assert_refused(desk_of("ring 2 fractions letters", "take x^3"), "out 0", NoOrder)
        self.assert_refused(desk_of("ring 2 fractions letters", "take x^3"), "out 1", Open)

    def test_counted(self):
        self.assert_all(("take x*y-1", "1"), ("take y^2-1", "2"), ("count", "2"), ("take x+5", "3"), ("count", "0"))
        self.assert_all(("box 9 9", "ready"), ("take x^4", "1"), ("take y^3-x", "2"), ("count", "12"))
        desk = desk_of("take x*y-1")
        self.assert_refused(desk, "count", Endless)
        self.assert_refused(Desk(), "count", Endless)
        self.assert_refused(desk_of("take x^3"), "count", Open)
        self.assert_refused(desk_of("take x^3", "take y^3"), "count", Open)

    def test_open(self):
        desk = desk_of("take x^3-y")
        for line in ("base", "count", "ask x", "ask 0", "ask x^3-y"):
            self.assert_refused(desk, line, Open)
        self.assert_refused(desk, "ask z", NoText)
        self.assert_refused(desk, "ask ", NoText)
        self.assert_refused(desk, "ask 1/0", NoOver)
        self.assert_refused(desk, "ask 1/0+", NoText)
        self.assert_said(desk, "box 3 1", "ready")
        self.assert_said(desk, "ask x^3", "without y")

    def test_lines_that_are_not_well_formed(self):
        desk = desk_of("take x", "take y")
        for line in ("base ", " base", "base 1", "Base", "bases", "count ", " count", "count 1", "Count", "counts", "ask",
                     "asks x", "base base", "base  ", "count count"):
            self.assert_refused(desk, line, NoLine)


class Drawn(DeskTest):

    def test_what_the_desk_answers_is_what_the_functions_tell(self):
        rng = random.Random(1)
        for many in (1, 2, 3):
            for field, written in ((Fractions(), "fractions"), (Rests(2), "rests 2"), (Rests(7), "rests 7")):
                for order, named in ((Order(), "letters"), (Degrees(), "degrees"), (Tails(), "tails"),
                                     (Weights([1, 0, 0][:many]), "weights" + " 1 0 0"[:2 * many])):
                    ring = Ring(many, field, order)
                    box = [rng.randint(1, 3 if many < 3 else 2) for _ in range(many)]
                    row = drawn_row(rng, ring, rng.randint(0, 3), 3)
                    desk = desk_of(f"ring {many} {written} {named}", "box " + " ".join(str(number) for number in box))
                    for at, f in enumerate(row):
                        self.assert_said(desk, "take " + shown(ring, f), str(at + 1))
                    poly = drawn(rng, ring)
                    self.assert_same(desk, "rows", lambda: self.joined(ring, row))
                    self.assert_same(desk, "base", lambda: self.joined(ring, least_base(ring, row, box)))
                    self.assert_same(desk, "count", lambda: str(how_many(ring, row, box)))
                    self.assert_same(desk, "ask " + shown(ring, poly), lambda: self.asked(ring, row, box, poly))
                    for k in (1, 2):
                        self.assert_same(desk, f"out {k}", lambda: self.joined(ring, taken_out(ring, row, box, k)))
                    self.assert_same(desk, "rows", lambda: self.joined(ring, row))

    def joined(self, ring, row):
        return "; ".join(shown(ring, f) for f in row) or "none"

    def asked(self, ring, row, box, poly):
        rest = looked_up(ring, row, box, poly)[1]
        return "without " + shown(ring, rest) if rest else "within"

    def assert_same(self, desk, line, function):
        try:
            expected = function()
        except RoomError as refusal:
            self.assert_refused(desk, line, type(refusal))
        else:
            self.assert_said(desk, line, expected)


class WhatIsRefused(DeskTest):

    def test_it_leaves_the_desk_as_it_was(self):
        desk = desk_of("ring 2 rests 7 letters", "box 1 3", "take x*y-1", "take y^2-1")
        before = self.state(desk)
        for line in ("ring 5 fractions letters", "ring 2 rests 6 letters", "ring 2 fractions", "box 9 10", "box 1", "take z",
                     "take 1/7", "drop 3", "drop 0", "ask 1/7", "ask w", "out 2", "out 0", "rows ", "nothing"):
            with self.assertRaises(RoomError):
                desk.said(line)
            self.assertEqual(self.state(desk), before)
        self.assert_said(desk, "rows", "x*y + 6; y^2 + 6")
        self.assert_said(desk, "base", "x + 6*y; y^2 + 6")

    def test_the_line_of_no_line(self):
        for line in ("", "take", "ask", "drop 7", "rows ", " rows", "box 1", "ring 2 fractions weights 1", "a" * 300):
            with self.assertRaises(NoLine) as caught:
                Desk().said(line)
            self.assertEqual(caught.exception.line, line)

    def test_arguments_by_their_names(self):
        self.assertEqual(Desk().said(line="rows"), "none")

    def test_the_ring_that_was_read_in_is_that_of_the_desk(self):
        desk = desk_of("ring 1 rests 3 letters", "take 2*x+2")
        ring = Ring(1, Rests(3), Order())
        self.assert_said(desk, "rows", shown(ring, read(ring, "2*x+2")))


if __name__ == "__main__":
    unittest.main()
