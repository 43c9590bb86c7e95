"""Promise 4: a grid, how it is written and how it is read."""

import unittest
from itertools import product

from fewturns.errors import NoGrid, TurnError
from fewturns.grids.texts import grid_shown, read_grid

MIXED = (
    "..........#.",
    ".########.#.",
    ".#......#.#.",
    ".#.####.#.#.",
    ".#.#..#.#.#.",
    ".#.#.##.#.#.",
    ".#.#....#.#.",
    ".#.######.#.",
    ".#........#.",
    ".##########.",
    "............",
    "#.#.#.#.#.#.",
)

GRIDS = {
    ".": (".",),
    "#": ("#",),
    "..#.": ("..#.",),
    "............": ("............",),
    ".\n#\n.": (".", "#", "."),
    "\n".join("#" * 12): ("#",) * 12,
    "..\n..": ("..", ".."),
    "##\n##\n##": ("##", "##", "##"),
    ".#.\n#.#": (".#.", "#.#"),
    "\n".join(["." * 12] * 12): ("." * 12,) * 12,
    "\n".join(["#" * 12] * 12): ("#" * 12,) * 12,
    "\n".join(MIXED): MIXED,
}

# Each text that is no grid, and the first row that is wrong.
REFUSED = (
    ("", 0),
    ("\n", 0),
    ("\n\n", 0),
    ("\n..\n..", 0),
    ("..\n", 1),
    (".\n", 1),
    ("..\n..\n", 2),
    ("..\n\n..", 1),
    ("..\n..\n\n..", 2),
    ("..\n\n", 1),
    (" ", 0),
    ("a", 0),
    (". .\n...", 0),
    (".. \n..", 0),
    ("..a\n...\n...", 0),
    ("~..\n...\n...", 0),
    ("...\n. .\n...", 1),
    ("...\n.a.\n...", 1),
    ("...\n..~\n...", 1),
    ("...\n...\n ..", 2),
    ("...\n...\n..a", 2),
    ("...\n...\n.~.", 2),
    ("..\n..\n..\n.X", 3),
    (".,", 0),
    ("o#", 0),
    ("./.", 0),
    ("0", 0),
    ("..\n.", 1),
    ("..\n...", 1),
    ("...\n...\n..", 2),
    ("...\n...\n....", 2),
    ("#\n##", 1),
    (".\n..\n...", 1),
    ("...\n..\n.", 1),
    # The first row tells the length, however many others agree on another one.
    (".\n..\n..\n..", 1),
    ("...\n..\n..\n..", 1),
    # Several rows are wrong, each in a way of its own: the first one counts.
    ("...\n..\n..a", 1),
    ("...\n..a\n..", 1),
    ("...\n...\n\n..a\n....", 2),
    ("a\n..\n\n", 0),
    ("\na", 0),
    (".a\n.", 0),
    ("..\n.. \n..", 1),
)


def row_refused(text):
    """The row that the refusal keeps, or None where the text is read."""
    try:
        read_grid(text)
    except NoGrid as refusal:
        return refusal.row
    return None


def row_by_the_words(text):
    """The first wrong row as the document tells it, sign by sign; None of a grid."""
    rows, row = [], ""
    for sign in text:
        if sign == "\n":
            rows, row = rows + [row], ""
        else:
            row += sign
    rows += [row]
    for at in range(len(rows)):
        if rows[at].strip(".#") or not rows[at] or len(rows[at]) != len(rows[0]):
            return at
    return None


class Read(unittest.TestCase):
    def test_grids_are_read(self):
        for text, grid in GRIDS.items():
            told = read_grid(text)
            self.assertEqual(told, grid)
            self.assertIs(type(told), tuple)
            self.assertTrue(all(type(row) is str for row in told))

    def test_grids_are_shown(self):
        for text, grid in GRIDS.items():
            told = grid_shown(grid)
            self.assertEqual(told, text)
            self.assertIs(type(told), str)

    def test_what_is_shown_is_read_back(self):
        for rows in range(1, 4):
            for columns in range(1, 4):
                lines = ["".join(signs) for signs in product(".#", repeat=columns)]
                for grid in product(lines, repeat=rows):
                    self.assertEqual(read_grid(grid_shown(grid)), grid)

    def test_twelve_rows_and_columns_are_read_back(self):
        self.assertEqual(len(MIXED), 12)
        self.assertEqual(read_grid(grid_shown(MIXED)), MIXED)

    def test_no_line_end_stands_ahead_or_behind(self):
        self.assertEqual(grid_shown((".",)), ".")
        self.assertEqual(grid_shown((".", "#")), ".\n#")

    def test_the_same_asked_again_is_answered_the_same(self):
        for text, grid in GRIDS.items():
            self.assertEqual(read_grid(text), read_grid(text))
            self.assertEqual(grid_shown(grid), grid_shown(grid))
            self.assertEqual(grid, tuple(text.split("\n")))


class Refused(unittest.TestCase):
    def test_the_first_wrong_row_is_kept(self):
        for text, row in REFUSED:
            with self.subTest(text=text):
                self.assertEqual(row_refused(text), row)

    def test_the_kept_row_is_a_whole_number(self):
        for text, _ in REFUSED:
            with self.assertRaises(NoGrid) as caught:
                read_grid(text)
            self.assertIs(type(caught.exception.row), int)
            self.assertIsInstance(caught.exception, TurnError)

    def test_every_other_sign_is_refused_in_every_row(self):
        signs = [chr(code) for code in range(32, 127) if chr(code) not in ".#%"]
        for sign in signs:
            for at in range(3):
                rows = ["...", "...", "..."]
                rows[at] = "." + sign + "."
                self.assertEqual(row_refused("\n".join(rows)), at, sign)

    def test_all_short_texts_are_as_the_words_say(self):
        for length in range(7):
            for signs in product(".#\na", repeat=length):
                text = "".join(signs)
                self.assertEqual(row_refused(text), row_by_the_words(text), repr(text))

    def test_a_grid_is_read_as_ever_behind_a_refusal(self):
        for text, row in REFUSED:
            self.assertEqual(row_refused(text), row)
            self.assertEqual(read_grid("..\n.#"), ("..", ".#"))
            self.assertEqual(row_refused(text), row)


if __name__ == "__main__":
    unittest.main()
