"""The refusals, as "idealroom/errors.py" of the interface tells them."""

import unittest

from idealroom import errors
from idealroom.errors import (
    Endless, NoBase, NoBox, NoLead, NoLine, NoOrder, NoOver, NoPrime, NoRing, NoTerm, NoText, Open, RoomError)

PLAIN = (NoPrime, NoOver, NoTerm, NoOrder, NoRing, NoLead, NoText, NoBase, NoBox, Open, Endless)
NAMES = ("NoPrime", "NoOver", "NoTerm", "NoOrder", "NoRing", "NoLead", "NoText", "NoBase", "NoBox",
         "Open", "Endless", "NoLine")


class TheRefusals(unittest.TestCase):

    def test_room_error_stands_straight_under_value_error(self):
        self.assertEqual(RoomError.__bases__, (ValueError,))

    def test_each_of_the_twelve_stands_straight_under_room_error(self):
        for name in NAMES:
            with self.subTest(name=name):
                self.assertEqual(getattr(errors, name).__bases__, (RoomError,))
                self.assertEqual(getattr(errors, name).__name__, name)

    def test_the_twelve_are_twelve_and_none_is_under_another(self):
        kinds = [getattr(errors, name) for name in NAMES]
        self.assertEqual(len(set(kinds)), 12)
        for one in kinds:
            for other in kinds:
                with self.subTest(one=one, other=other):
                    self.assertEqual(issubclass(one, other), one is other)

    def test_each_is_taken_as_itself_as_room_error_and_as_value_error(self):
        for kind in PLAIN:
            for taken in (kind, RoomError, ValueError):
                with self.subTest(kind=kind, taken=taken):
                    with self.assertRaises(taken):
                        raise kind("own words")


class TheLine(unittest.TestCase):

    def test_no_line_has_its_line(self):
        for line in ("", " ", "box 2 2 ", "take", "drop 007", "a" * 300):
            with self.subTest(line=line):
                self.assertEqual(NoLine(line).line, line)

    def test_each_no_line_has_a_line_of_its_own(self):
        first, second = NoLine("rows "), NoLine("bases")
        self.assertEqual((first.line, second.line), ("rows ", "bases"))

    def test_the_line_is_there_when_it_was_raised(self):
        for taken in (NoLine, RoomError, ValueError):
            with self.subTest(taken=taken):
                with self.assertRaises(taken) as told:
                    raise NoLine("drop  1")
                self.assertEqual(told.exception.line, "drop  1")


if __name__ == "__main__":
    unittest.main()
