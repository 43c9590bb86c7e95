"""Promise 7: ways written by their runs, and read from them."""

import unittest
from itertools import groupby, product

from fewturns.errors import NoRuns, NoWay, TurnError
from fewturns.grids.runs import runs_of, way_by
from fewturns.grids.ways import turns_of
from tests.grounds import (
    FAR, HALL, OPEN, ROOM, STEPS, all_ways, followed, free_places, made, not_free_of, snake,
)

# Of an open grid, from (5, 5): texts refused, and the first word that is wrong.
REFUSED = (
    # An empty word: ahead of all, behind all, side by side.
    (" ", 0),
    ("  ", 0),
    (" e1", 0),
    ("e1 ", 1),
    ("e1 s1 ", 2),
    ("e1  s1", 1),
    ("e1 s1  w1", 2),
    ("e1   s1", 1),
    # A heading alone, a number alone, turned about.
    ("e", 0),
    ("e1 s", 1),
    ("1", 0),
    ("e1 2", 1),
    ("12", 0),
    ("1e", 0),
    ("3 e", 0),
    # Other letters and capitals.
    ("x1", 0),
    ("a1 e1", 0),
    ("e1 N1", 1),
    ("E1", 0),
    ("S2", 0),
    ("W1", 0),
    ("o1", 0),
    ("east1", 0),
    ("en1", 0),
    ("ee", 0),
    # Nought, noughts ahead.
    ("e0", 0),
    ("e00", 0),
    ("e01", 0),
    ("e1 s001", 1),
    ("e1 s0", 1),
    # Signs behind, ahead of or within the number.
    ("e1.", 0),
    ("e1e", 0),
    ("e1s1", 0),
    ("e1,s1", 0),
    ("e1_0", 0),
    ("e1~", 0),
    ("e1.0", 0),
    ("e0x1", 0),
    ("e+1", 0),
    ("e-1", 0),
    ("e1 s+1", 1),
    ("e1 s-1", 1),
    ("+e1", 0),
    ("-e1", 0),
    # Line ends are no blanks, and blanks only part.
    ("\n", 0),
    ("e1\n", 0),
    ("\ne1", 0),
    ("e\n1", 0),
    ("e1\ns1", 0),
    ("e1 \ns1", 1),
    ("e1 s1\n", 1),
    ("e 1", 0),
    # The heading of the word ahead.
    ("e1 e1", 1),
    ("e1 s1 s2", 2),
    ("e1 w1 w1", 2),
    ("e1 s1 e1 e1", 3),
    ("n1 n1 n1", 1),
    # Several wrong words: the first one counts.
    ("e1 e1 x", 1),
    ("e1 x e1 e0", 1),
    ("x e1 e1", 0),
    ("e1 s1 s0 w", 2),
    ("e0 e1", 0),
    ("e1 e0 s", 1),
    ("e1  e1", 1),
    # A wrong word behind runs that leave the grid.
    ("e99 s", 1),
    ("e99 w1 w1", 2),
    ("n999999 e1 q", 2),
)

# From (0, 1) of HALL: texts refused with NoWay.
NO_WAYS = (
    "e1", "s3", "s1 w1", "s1 e3", "n1", "e2", "s1 e2 n2", "s1 e2 s1 w1", "w2", "w1 s1", "s1 n2", "e999999", "w1 e3",
)


def told_of(ask, *arguments):
    """What is told, or the class of the refusal and what it keeps."""
    try:
        return ask(*arguments)
    except NoRuns as refusal:
        return NoRuns, refusal.place
    except NoWay:
        return NoWay


def text_by_the_words(headings):
    return " ".join(heading + str(len(list(run))) for heading, run in groupby(headings))


class Written(unittest.TestCase):
    def told(self, grid, way, text):
        self.assertEqual(runs_of(grid, way), text)
        self.assertIs(type(runs_of(grid, way)), str)

    def test_one_place_is_a_text_without_signs(self):
        self.told((".",), ((0, 0),), "")
        self.told(ROOM, ((2, 1),), "")

    def test_one_run(self):
        for heading in STEPS:
            self.told(ROOM, followed((1, 1), heading), heading + "1")
            self.told(OPEN, followed((5, 5), heading * 4), heading + "4")
        self.told(OPEN, followed((0, 0), "e" * 11), "e11")
        self.told(OPEN, followed((11, 0), "n" * 10), "n10")

    def test_many_runs(self):
        self.told(ROOM, followed((0, 0), "eess"), "e2 s2")
        self.told(HALL, followed((0, 1), "seen"), "s1 e2 n1")
        self.told(ROOM, followed((0, 0), "eseswn"), "e1 s1 e1 s1 w1 n1")

    def test_back_and_forth(self):
        self.told(("..",), followed((0, 0), "ewew"), "e1 w1 e1 w1")
        self.told(ROOM, followed((0, 0), "ssnneeww"), "s2 n2 e2 w2")

    def test_two_hundred_places(self):
        way = snake(OPEN) + tuple(reversed(snake(OPEN)))[1:57]
        self.assertEqual(len(way), 200)
        text = runs_of(OPEN, way)
        self.assertTrue(text.startswith("e11 s1 w11 s1 e11 "))
        self.assertEqual(way_by(OPEN, (0, 0), text), way)
        way = followed((0, 0), "ew" * 99 + "e")
        self.assertEqual(len(way), 200)
        self.told(("..",), way, "e1 w1 " * 99 + "e1")

    def test_all_short_ways(self):
        for grid in (ROOM, HALL, ("..", ".#")):
            for place in free_places(grid):
                for headings, _ in all_ways(grid, place, 5):
                    way = followed(place, headings)
                    self.told(grid, way, text_by_the_words(headings))
                    turns, length = turns_of(grid, way)
                    self.assertEqual(len(text_by_the_words(headings).split()), turns + (length > 0))

    def test_what_is_no_way_is_refused(self):
        for way in ((), ((0, 2),), ((-1, 0),), ((0, 0), (0, 0)), ((0, 1), (0, 2), (0, 3)), ((0, 0), (1, 1)),
                    ((0, 0), (0, -1)), ((FAR, -FAR),), ((0, 1), (0, 3)), ((0, 0), (0, 1), (0, 2))):
            with self.assertRaises(NoWay) as caught:
                runs_of(HALL, way)
            self.assertIsInstance(caught.exception, TurnError)


class Read(unittest.TestCase):
    def told(self, grid, place, text, headings):
        way = way_by(grid, place, text)
        self.assertEqual(way, followed(place, headings))
        self.assertIs(type(way), tuple)
        for one in way:
            self.assertIs(type(one), tuple)
            self.assertEqual([type(number) for number in one], [int, int])

    def test_a_text_without_signs_is_the_place_alone(self):
        for place in free_places(HALL):
            self.assertEqual(way_by(HALL, place, ""), (place,))

    def test_one_run(self):
        for heading in STEPS:
            self.told(OPEN, (5, 5), heading + "1", heading)
            self.told(OPEN, (5, 5), heading + "5", heading * 5)
        self.told(OPEN, (0, 0), "e10", "e" * 10)
        self.told(OPEN, (0, 0), "s11", "s" * 11)

    def test_many_runs(self):
        self.told(ROOM, (0, 0), "e2 s2 w1 n1", "eesswn")
        self.told(HALL, (0, 1), "s1 e2 n1", "seen")
        self.told(ROOM, (1, 1), "n1 w1 s2 e2 n2", "nwsseenn")

    def test_back_and_forth(self):
        self.told(("..",), (0, 1), "w1 e1 w1", "wew")
        self.told(ROOM, (0, 0), "s2 n2 s1", "ssnns")

    def test_longest_texts(self):
        text = " ".join(["e11", "w11"] * 50)
        self.assertEqual(len(text), 399)
        self.told(OPEN, (3, 0), text, ("e" * 11 + "w" * 11) * 50)
        text = " ".join(["n1", "s1"] * 66)
        self.told((".", "."), (1, 0), text, "ns" * 66)

    def test_runs_are_read_back_to_the_same_way(self):
        for grid in (ROOM, HALL, made(4, 4, 3, 30)):
            for place in free_places(grid):
                for headings, _ in all_ways(grid, place, 5):
                    way = followed(place, headings)
                    self.assertEqual(way_by(grid, place, runs_of(grid, way)), way)


class RefusedWords(unittest.TestCase):
    def test_the_first_wrong_word_is_kept(self):
        for text, place in REFUSED:
            with self.subTest(text=text):
                self.assertEqual(told_of(way_by, OPEN, (5, 5), text), (NoRuns, place))

    def test_the_kept_place_is_a_whole_number(self):
        for text, _ in REFUSED:
            with self.assertRaises(NoRuns) as caught:
                way_by(OPEN, (5, 5), text)
            self.assertIs(type(caught.exception.place), int)
            self.assertIsInstance(caught.exception, TurnError)

    def test_every_other_sign(self):
        signs = [chr(code) for code in range(32, 127) if code != 37] + ["\n"]
        for sign in signs:
            if sign not in "ensw":
                # A blank parts the word: then its first part is empty.
                self.assertEqual(told_of(way_by, OPEN, (5, 5), "e1 " + sign + "1"), (NoRuns, 1), sign)
            if sign not in "0123456789":
                self.assertEqual(told_of(way_by, OPEN, (5, 5), "s1 e" + sign), (NoRuns, 1), sign)
            if sign not in "0123456789 ":
                self.assertEqual(told_of(way_by, OPEN, (5, 5), "s1 n1" + sign), (NoRuns, 1), sign)
                self.assertEqual(told_of(way_by, OPEN, (5, 5), "s1 n1" + sign + "1"), (NoRuns, 1), sign)

    def test_all_short_texts(self):
        for length in range(1, 6):
            for signs in product("es10 ", repeat=length):
                text = "".join(signs)
                self.assertEqual(told_of(way_by, OPEN, (0, 0), text), by_the_words(text), repr(text))

    def test_wrong_words_go_ahead_of_places_that_are_not_free(self):
        for place in not_free_of(HALL):
            for text, word in REFUSED:
                self.assertEqual(told_of(way_by, HALL, place, text), (NoRuns, word))
        for text, word in REFUSED:
            self.assertEqual(told_of(way_by, ("#",), (0, 0), text), (NoRuns, word))

    def test_many_words(self):
        text = " ".join(["e1", "w1"] * 60)
        self.assertEqual(told_of(way_by, ("..",), (0, 0), text + " w1"), (NoRuns, 120))
        self.assertEqual(told_of(way_by, ("..",), (0, 0), text + " e"), (NoRuns, 120))
        self.assertEqual(told_of(way_by, ("..",), (0, 0), text + " "), (NoRuns, 120))


def by_the_words(text):
    """What way_by tells from (0, 0) of the open grid, of e, s, 1, 0 and blanks, sign by sign."""
    words, ahead, headings = text.split(" "), "", ""
    for at, word in enumerate(words):
        if not word or word[0] not in "es" or not word[1:] or word[1] != "1" or set(word[1:]) - set("10"):
            return NoRuns, at
        if word[0] == ahead:
            return NoRuns, at
        ahead = word[0]
        headings += word[0] * int(word[1:])
    way = followed((0, 0), headings)
    return way if max(max(place) for place in way) < 12 else NoWay


class RefusedWays(unittest.TestCase):
    def test_through_walls_and_out_of_the_grid(self):
        for text in NO_WAYS:
            self.assertIs(told_of(way_by, HALL, (0, 1), text), NoWay, text)

    def test_out_of_the_grid_on_each_side(self):
        for heading in STEPS:
            self.assertIs(told_of(way_by, ROOM, (1, 1), heading + "2"), NoWay)
            self.assertIs(told_of(way_by, ROOM, (1, 1), heading + "999999"), NoWay)
            self.assertIs(told_of(way_by, (".",), (0, 0), heading + "1"), NoWay)

    def test_out_and_back_in(self):
        self.assertIs(told_of(way_by, ROOM, (0, 0), "n1 s1"), NoWay)
        self.assertIs(told_of(way_by, ROOM, (0, 0), "w1 e1"), NoWay)
        self.assertIs(told_of(way_by, HALL, (0, 1), "e1 w1"), NoWay)
        self.assertIs(told_of(way_by, ROOM, (2, 2), "s1 n1 w1"), NoWay)

    def test_first_places_that_are_not_free(self):
        for grid in (HALL, ROOM, ("#",), (".",)):
            for place in not_free_of(grid):
                for text in ("", "e1", "s1 w1", "n1 e1", "w999999"):
                    self.assertIs(told_of(way_by, grid, place, text), NoWay, (grid, place, text))

    def test_into_the_grid_from_beside_it(self):
        self.assertIs(told_of(way_by, ROOM, (-1, 0), "s1"), NoWay)
        self.assertIs(told_of(way_by, ROOM, (0, -1), "e1"), NoWay)
        self.assertIs(told_of(way_by, ROOM, (3, 0), "n1"), NoWay)
        self.assertIs(told_of(way_by, ROOM, (0, 3), "w1"), NoWay)

    def test_a_refusal_of_the_way_is_any_refusal(self):
        with self.assertRaises(NoWay) as caught:
            way_by(HALL, (0, 1), "e1")
        self.assertIsInstance(caught.exception, TurnError)
        self.assertIs(type(str(caught.exception)), str)


class TheWhole(unittest.TestCase):
    """Promise 2."""

    def test_the_same_asked_again_is_answered_the_same(self):
        grid, way = tuple(list(HALL)), followed((0, 1), "seen")
        for _ in range(2):
            self.assertEqual(runs_of(grid, way), "s1 e2 n1")
            self.assertEqual(way_by(grid, (0, 1), "s1 e2 n1"), way)
            self.assertEqual(told_of(way_by, grid, (0, 1), "s1 s1"), (NoRuns, 1))
            self.assertIs(told_of(way_by, grid, (0, 1), "s3"), NoWay)
            self.assertEqual((grid, way), (HALL, followed((0, 1), "seen")))


if __name__ == "__main__":
    unittest.main()
