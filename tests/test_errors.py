"""The classes of fewturns/errors.py."""

import unittest

from fewturns import errors
from fewturns.errors import NoAsk, NoGrid, NoPlace, NoRuns, NoWay, TurnError

UNDER = (NoWay, NoAsk, NoGrid, NoRuns, NoPlace)


class WhichStandsUnderWhich(unittest.TestCase):
    def test_any_refusal_is_a_value_error(self):
        self.assertTrue(issubclass(TurnError, ValueError))
        self.assertEqual(TurnError.__bases__, (ValueError,))

    def test_all_stand_under_turn_error(self):
        for kind in UNDER:
            self.assertTrue(issubclass(kind, TurnError), kind)

    def test_none_stands_under_another_one(self):
        for kind in UNDER:
            for other in UNDER:
                if kind is not other:
                    self.assertFalse(issubclass(kind, other), (kind, other))

    def test_there_are_no_other_classes(self):
        found = {name for name, what in vars(errors).items() if isinstance(what, type)}
        self.assertEqual(found, {"TurnError", "NoWay", "NoAsk", "NoGrid", "NoRuns", "NoPlace"})


class WhatEachKeepsAndTells(unittest.TestCase):
    def test_str_tells_the_text(self):
        for kind in (NoWay, NoAsk):
            for text in ("", "a text", "two\nrows", " blanks ", "#.~"):
                self.assertEqual(str(kind(text)), text)

    def test_no_grid_keeps_its_row(self):
        for row in (0, 1, 11, 400):
            kept = NoGrid(row).row
            self.assertEqual(kept, row)
            self.assertIs(type(kept), int)

    def test_no_runs_keeps_its_place(self):
        for place in (0, 1, 399):
            kept = NoRuns(place).place
            self.assertEqual(kept, place)
            self.assertIs(type(kept), int)

    def test_no_place_keeps_its_place(self):
        for place in ((0, 0), (-1, 3), (10 ** 6, -10 ** 6)):
            kept = NoPlace(place).place
            self.assertEqual(kept, place)
            self.assertIs(type(kept), tuple)

    def test_two_made_by_hand_keep_apart(self):
        one, other = NoGrid(1), NoGrid(2)
        self.assertEqual((one.row, other.row), (1, 2))

    def test_str_of_the_others_tells_something(self):
        for refusal in (NoGrid(3), NoRuns(3), NoPlace((3, 4))):
            self.assertIn("3", str(refusal))

    def test_each_is_caught_as_any_refusal(self):
        for refusal in (NoWay("a"), NoAsk("a"), NoGrid(0), NoRuns(0), NoPlace((0, 0))):
            with self.assertRaises(TurnError) as caught:
                raise refusal
            self.assertIs(caught.exception, refusal)


if __name__ == "__main__":
    unittest.main()
