"""Promise 19: the desk; and promises 1 to 3 as far as it tells of all the rest."""

import unittest
from itertools import product

from fewturns.errors import NoAsk, NoGrid, NoPlace, NoRuns, NoWay, TurnError
from fewturns.whole import Desk
from tests.grounds import (
    COMB, HALL, OPEN, PARTS, RING, ROOM, ROUND, SPIRAL, STEPPED, best_by_queue, costs_by_queue, counted_back, drawn,
    followed, free_places, made, not_free_of, pairs_by_steps, reached, walled, walls_of,
)

REFUSALS = (NoAsk, NoGrid, NoRuns, NoPlace, NoWay)

# Of HALL ("..#.", "#...", "..#."): each line that tells something, and what it tells.
TOLD = (
    ("show", ["..#.", "#...", "..#."]),
    ("least 0 0 0 0", ["0 0"]),
    ("least 0 0 0 1", ["0 1"]),
    ("least 0 1 0 3", ["2 4"]),
    ("least 0 0 2 3", ["3 5"]),
    ("way 0 0 0 0", [""]),
    ("way 0 0 0 1", ["e1"]),
    ("way 0 1 0 3", ["s1 e2 n1"]),
    ("way 2 3 0 0", ["n1 w2 n1 w1"]),
    ("by 0 0 0 0", ["0 0"]),
    ("by 0 1 0 3", ["2 4"]),
    ("price 0 0 1 0 3", ["4"]),
    ("price 1 0 1 0 3", ["6"]),
    ("price 100 0 1 0 3", ["204"]),
    ("price 999999 0 0 2 3", ["3000002"]),
    ("price 7 1 1 1 1", ["0"]),
    ("stairs 0 0 0 0", ["1"]),
    ("stairs 0 0 0 1", ["1"]),
    ("stairs 0 0 2 1", ["0 1"]),
    ("stairs 0 0 2 3", ["0 0 0 1"]),
    ("stairs 0 1 0 0", []),
    ("stairs 0 1 0 3", []),
    ("reach 0 0", ["9"]),
    ("reach 2 3", ["9"]),
    ("widest", ["3 0 0 0 3"]),
    ("go 0 0 ", ["0 0"]),
    ("go 0 1 s1 e2 n1", ["0 3"]),
    ("go 0 1 s2", ["2 1"]),
    ("go 1 1 e2 w2 e1", ["1 2"]),
)

# Lines that are none, whatever the grid.
NO_LINES = (
    "", " ", "  ", "\n", "x", "gridd ..", "grids", "shows", "sho", "0", "1 1", "least1 0 0 0 0", "wide", "help", "none",
    # Capitals.
    "Show", "SHOW", "Least 0 0 0 0", "WIDEST", "Grid ..", "GRID ..", "Go 0 0 ", "GO 0 0 e1", "Wall 0 0", "fRee 0 0",
    # A blank ahead, behind, two side by side.
    " show", "show ", "  show", "show  ", " widest", "widest ", " grid ..", " go 0 0 ", " wall 0 0", "wall 0 0 ",
    "wall  0 0", "wall 0  0", "free 0 0 ", "free  0 0", " free 0 0",
    "least 0 0 0 0 ", " least 0 0 0 0",
    "least  0 0 0 0", "least 0 0  0 0", "way 0 0 0  0", "way 0 0 0 0 ", "by  0 0 0 0", "by 0 0 0 0 ", "reach 0 0 ",
    "reach  0 0", "price 1 0 0 0 0 ", "price  1 0 0 0 0", "stairs 0 0 0 0 ", "stairs  0 0 0 0", "go  0 0 e1",
    "go 0  0 e1", "go  0 0 ",
    # A word too many or too few.
    "show 0", "widest 0", "wall", "wall ", "wall 0", "wall 0 0 0", "free", "free 0", "free 0 0 0",
    "least", "least 0 0 0", "least 0 0 0 0 0", "way", "way 0 0 0", "way 0 0 0 0 0", "by 0 0 0", "by 0 0 0 0 0", "by",
    "price 0 0 0 0",
    "price 1 0 0 0 0 0", "price", "stairs 0 0 0", "stairs 0 0 0 0 0", "stairs", "reach", "reach 0", "reach 0 0 0",
    "go", "go ", "go 0", "go 0 ", "go 0 0", "go e1",
    # `grid` without a blank, or with another sign than a blank behind it.
    "grid", "grid\n", "grid\n..", "grid/..", "grid..",
    # Line ends part no words.
    "show\n", "\nshow", "widest\n", "reach 0 0\n", "reach 0\n0", "wall\n0 0", "least 0 0 0 0\n", "go\n0 0 e1",
)

# What is no number of the desk, in any place of a line.
NO_NUMBERS = (
    "", "00", "01", "007", "+0", "-0", "+1", "-1", "x", "1x", "x1", "0x1", "1.0", "1,0", "1_0", "one", "#", ".", "~",
    "0\n", "\n0", "1e1", "e1", "1000000", "9999999", "0000000", "1234567890", "0" * 100, "9" * 300,
)

# Lines with numbers, whose every number is tried; `go` has runs behind them.
NUMBERED = (
    ("wall {} {}", 2), ("free {} {}", 2), ("least {} {} {} {}", 4), ("way {} {} {} {}", 4), ("by {} {} {} {}", 4),
    ("price {} {} {} {} {}", 5), ("stairs {} {} {} {}", 4), ("reach {} {}", 2), ("go {} {} e1", 2), ("go {} {} ", 2),
)

# Texts that are no grid, and the first row that is wrong.
NO_GRIDS = (
    ("", 0), (" ", 0), ("x", 0), ("..x", 0), ("/", 0), ("/..", 0), ("../", 1), ("..//..", 1),
    ("../.", 1), ("../...", 1), ("../../..x", 2), ("../. /..", 1), (" ..", 0), (".. ", 0), (".. /..", 0),
    ("../.. ", 1), ("../ ..", 1), (". .", 0),
    # A line end parts no rows: it is a wrong sign.
    ("\n", 0), ("..\n..", 0), ("..\n", 0), ("\n..", 0), ("../..\n..", 1), ("../..\n", 1),
    ("../\n..", 1), ("../..\n/..", 1), (".\n./...", 0), (".../.\n.", 1), (".../..\n/...", 1),
    # Several are wrong: the first one counts.
    ("../x/...", 1), ("../.../x", 1), ("../..\n../x", 1), ("x/\n", 0), (".\\.", 0), ("..,..", 0), ("show", 0),
)


def text_of(grid):
    return "grid " + "/".join(grid)


def desk_of(grid):
    desk = Desk()
    desk.ask(text_of(grid))
    return desk


def row_of(*numbers):
    return " ".join(map(str, numbers))


def refused_by(desk, line):
    """The class of the refusal and what it keeps, or what is told."""
    try:
        return desk.ask(line)
    except (NoAsk, NoWay) as refusal:
        return type(refusal), None
    except NoGrid as refusal:
        return NoGrid, refusal.row
    except (NoRuns, NoPlace) as refusal:
        return type(refusal), refusal.place


def answers_by_the_words(grid, one, other, price):
    """Lines about the two places, and what each tells, without asking the program."""
    ends = row_of(*one, *other)
    best = best_by_queue(grid, one).get(other)
    pairs = pairs_by_steps(grid, one).get(other, ())
    steps = sum(other) - sum(one)
    stairs = counted_back(grid, one, other, steps, "es") if steps >= 0 else ()
    runs = runs_by_the_words(best[2]) if best else "none"
    told = {
        "show": list(grid),
        "least " + ends: [row_of(*best[:2]) if best else "none"],
        "way " + ends: [runs],
        "by " + ends: [row_of(*pair) for pair in pairs],
        f"price {price} " + ends: [str(costs_by_queue(grid, one, price).get(other, "none"))],
        "stairs " + ends: [row_of(*stairs)] if stairs else [],
        f"reach {row_of(*one)}": [str(len(reached(grid, one)))],
        f"go {row_of(*one)} ": [row_of(*one)],
    }
    if best:
        told[f"go {row_of(*one)} {runs}"] = [row_of(*other)]
    return told


def runs_by_the_words(headings):
    words = []
    for heading in headings:
        if words and words[-1][0] == heading:
            words[-1] = heading + str(int(words[-1][1:]) + 1)
        else:
            words.append(heading + "1")
    return " ".join(words)


def widest_by_the_words(grid):
    told = None
    for one in sorted(free_places(grid)):
        for other, best in sorted(best_by_queue(grid, one).items()):
            if told is None or best[0] > told[0]:
                told = (best[0], one, other)
    return [row_of(told[0], *told[1], *told[2])] if told else []


class Asked(unittest.TestCase):
    def told(self, desk, line, rows):
        told = desk.ask(line)
        self.assertEqual(told, rows, line)
        self.assertIs(type(told), list)
        self.assertTrue(all(type(row) is str for row in told))

    def refused(self, desk, line, kind, kept=None):
        """Refused so, and behind it the desk is as ahead."""
        ahead = desk.ask("show")
        self.assertEqual(refused_by(desk, line), (kind, kept), repr(line))
        self.assertEqual(desk.ask("show"), ahead, repr(line))


class AtFirst(Asked):
    def test_one_free_place(self):
        for line, rows in (
            ("show", ["."]), ("least 0 0 0 0", ["0 0"]), ("way 0 0 0 0", [""]), ("by 0 0 0 0", ["0 0"]),
            ("price 5 0 0 0 0", ["0"]), ("stairs 0 0 0 0", ["1"]), ("reach 0 0", ["1"]), ("widest", ["0 0 0 0 0"]),
            ("go 0 0 ", ["0 0"]), ("wall 0 0", []),
        ):
            self.told(Desk(), line, rows)
        self.refused(Desk(), "free 0 0", NoPlace, (0, 0))
        self.refused(Desk(), "wall 0 1", NoPlace, (0, 1))

    def test_the_only_place_walled(self):
        desk = Desk()
        self.told(desk, "wall 0 0", [])
        self.told(desk, "show", ["#"])
        self.told(desk, "widest", [])
        self.refused(desk, "reach 0 0", NoPlace, (0, 0))
        self.told(desk, "free 0 0", [])
        self.told(desk, "widest", ["0 0 0 0 0"])


class EachLine(Asked):
    def test_what_each_tells(self):
        desk = desk_of(HALL)
        for line, rows in TOLD + TOLD[::-1]:
            self.told(desk, line, rows)

    def test_grid(self):
        desk = Desk()
        for grid in (HALL, (".",), ("#",), OPEN, COMB, SPIRAL, ("." * 12,), (".",) * 12, ("##", "##"), PARTS):
            self.told(desk, text_of(grid), [])
            self.told(desk, "show", list(grid))

    def test_wall_and_free(self):
        desk = desk_of(("...", "..."))
        self.told(desk, "wall 0 2", [])
        self.told(desk, "show", ["..#", "..."])
        self.told(desk, "wall 1 0", [])
        self.told(desk, "show", ["..#", "#.."])
        self.told(desk, "free 0 2", [])
        self.told(desk, "show", ["...", "#.."])
        self.told(desk, "free 1 0", [])
        self.told(desk, "show", ["...", "..."])

    def test_walls_of_the_text_are_taken_down_as_others(self):
        desk = desk_of(HALL)
        self.told(desk, "free 0 2", [])
        self.told(desk, "show", ["....", "#...", "..#."])
        self.told(desk, "least 0 0 0 3", ["0 3"])

    def test_two_figures(self):
        desk = desk_of(OPEN)
        self.told(desk, "least 10 11 11 10", ["1 2"])
        self.told(desk, "way 11 0 0 11", ["e11 n11"])
        self.told(desk, "go 11 11 n11 w10", ["0 1"])
        self.told(desk, "wall 11 10", [])
        self.told(desk, "reach 11 11", ["143"])
        self.told(desk, "free 11 10", [])
        self.told(desk, "widest", ["1 0 0 1 1"])

    def test_none(self):
        desk = desk_of(PARTS)
        for line, rows in (
            ("least 0 0 0 4", ["none"]), ("way 0 0 0 4", ["none"]), ("by 0 0 0 4", []), ("price 3 0 0 0 4", ["none"]),
            ("stairs 0 0 0 4", []), ("reach 0 0", ["1"]), ("price 0 0 4 0 0", ["none"]),
        ):
            self.told(desk, line, rows)

    def test_by_has_a_row_for_each_pair(self):
        desk = desk_of(ROUND)
        self.told(desk, "by 0 0 2 3", ["2 9", "3 5"])
        self.told(desk, "way 0 0 2 3", ["s4 e3 n2"])
        self.told(desk, "price 3 0 0 2 3", ["14"])
        self.told(desk, "price 999999 0 0 2 3", ["2000007"])
        desk = desk_of(STEPPED)
        self.told(desk, "by 0 0 5 3", ["2 12", "4 10", "5 8"])

    def test_stairs_in_one_row(self):
        desk = desk_of(ROOM)
        self.told(desk, "stairs 0 0 2 2", ["0 2 2 2"])
        self.told(desk, "stairs 0 0 1 2", ["0 2 1"])
        self.told(desk, "stairs 2 2 0 0", [])

    def test_no_free_place(self):
        desk = desk_of(("##", "##"))
        self.told(desk, "widest", [])
        self.told(desk, "show", ["##", "##"])

    def test_grids_of_many_kinds(self):
        for at, grid in enumerate((HALL, PARTS, RING, ROUND, STEPPED, made(12, 12, 5, 20), made(7, 9, 6, 35))):
            desk, free = desk_of(grid), sorted(free_places(grid))
            for one, other in product(free[::len(free) // 3], free[1::len(free) // 3]):
                for line, rows in answers_by_the_words(grid, one, other, at).items():
                    self.told(desk, line, rows)
            self.told(desk, "widest", widest_by_the_words(grid))


class OtherLines(Asked):
    def test_other_lines(self):
        for grid in ((".",), HALL):
            desk = desk_of(grid)
            for line in NO_LINES:
                self.refused(desk, line, NoAsk)

    def test_numbers_that_are_none(self):
        desk = desk_of(HALL)
        for line, many in NUMBERED:
            for at, word in product(range(many), NO_NUMBERS):
                numbers = ["0"] * many
                numbers[at] = word
                self.refused(desk, line.format(*numbers), NoAsk)

    def test_figures_of_other_scripts(self):
        # They are beyond what is promised, but digits to Python.
        desk = desk_of(HALL)
        for word in ("\u0661", "\u00b2", "\uff11"):
            self.refused(desk, f"wall 0 {word}", NoAsk)

    def test_every_other_sign_in_a_number(self):
        desk = desk_of(HALL)
        for sign in [chr(code) for code in range(32, 127) if chr(code) not in "%0123456789"] + ["\n"]:
            for line in ("reach 0 " + sign, "reach 0 1" + sign, "reach 0 " + sign + "1", "wall 1" + sign + " 1"):
                self.refused(desk, line, NoAsk)

    def test_six_figures_are_a_number(self):
        desk = desk_of(HALL)
        self.refused(desk, "wall 999999 0", NoPlace, (999999, 0))
        self.refused(desk, "reach 0 100000", NoPlace, (0, 100000))
        self.refused(desk, "go 999999 0 ", NoWay)
        self.told(desk, "price 999999 0 0 0 1", ["1"])
        self.refused(desk, "price 1000000 0 0 0 1", NoAsk)

    def test_no_number_goes_ahead_of_no_place(self):
        desk = desk_of(HALL)
        for line in ("least 9 9 0 x", "least x 0 9 9", "way 0 2 0 01", "price 01 9 9 9 9", "stairs 9 9 9 1000000",
                     "wall 9 x", "free 9 +1", "go 9 x e1", "go 0 1000000 x", "by 9 9 9 ", "reach 9 9 9"):
            self.refused(desk, line, NoAsk)

    def test_a_refusal_is_any_refusal_and_tells_a_text(self):
        for line in NO_LINES:
            with self.assertRaises(NoAsk) as caught:
                Desk().ask(line)
            self.assertIsInstance(caught.exception, TurnError)
            self.assertIs(type(str(caught.exception)), str)


class Grids(Asked):
    def test_texts_that_are_no_grid(self):
        for grid in ((".",), HALL):
            desk = desk_of(grid)
            for text, row in NO_GRIDS:
                self.refused(desk, "grid " + text, NoGrid, row)

    def test_each_sign(self):
        desk = desk_of(HALL)
        for sign in [chr(code) for code in range(32, 127) if chr(code) not in ".#/%"] + ["\n"]:
            for at in range(3):
                rows = ["...", "...", "..."]
                rows[at] = "." + sign + "."
                self.refused(desk, text_of(rows), NoGrid, at)

    def test_a_new_grid_while_walls_of_the_old_one_stood(self):
        desk = desk_of(("...", "...", "..."))
        for line in ("wall 0 0", "wall 2 1", "wall 1 2"):
            desk.ask(line)
        desk.ask("grid ..../....")
        self.told(desk, "show", ["....", "...."])
        self.refused(desk, "free 0 0", NoPlace, (0, 0))
        self.told(desk, "reach 0 0", ["8"])
        self.told(desk, "wall 0 0", [])
        desk.ask("grid ...")
        self.told(desk, "show", ["..."])
        self.refused(desk, "reach 1 0", NoPlace, (1, 0))

    def test_behind_a_refused_grid_the_old_one_is_kept(self):
        desk = desk_of(("..", ".."))
        desk.ask("wall 0 1")
        self.refused(desk, "grid .../..", NoGrid, 1)
        self.told(desk, "show", [".#", ".."])
        self.told(desk, "least 0 0 1 1", ["1 2"])
        self.told(desk, "free 0 1", [])


class Places(Asked):
    def test_places_that_are_not_free(self):
        desk = desk_of(HALL)
        inside = [place for place in not_free_of(HALL) if min(place) >= 0 and max(place) < 10 ** 6]
        for wrong in inside + [(999999, 0), (0, 999999), (999999, 999999)]:
            pair = row_of(*wrong)
            for line in ("least {} 0 0", "least 0 0 {}", "way {} 0 0", "way 0 0 {}", "by {} 0 0", "by 0 0 {}",
                         "price 1 {} 0 0", "price 1 0 0 {}", "stairs {} 0 0", "stairs 0 0 {}", "reach {}", "wall {}"):
                self.refused(desk, line.format(pair), NoPlace, wrong)

    def test_the_first_one_counts(self):
        desk = desk_of(HALL)
        for word in ("least", "way", "by", "price 1", "stairs"):
            self.refused(desk, word + " 0 2 1 0", NoPlace, (0, 2))
            self.refused(desk, word + " 1 0 0 2", NoPlace, (1, 0))
            self.refused(desk, word + " 9 9 0 2", NoPlace, (9, 9))
            self.refused(desk, word + " 0 2 9 9", NoPlace, (0, 2))

    def test_free_where_there_is_no_wall(self):
        desk = desk_of(HALL)
        for place in sorted(free_places(HALL)) + [(3, 0), (0, 4), (999999, 999999)]:
            self.refused(desk, "free " + row_of(*place), NoPlace, place)

    def test_rows_and_columns_are_not_mixed_up(self):
        desk = desk_of(("....",))
        self.told(desk, "reach 0 3", ["4"])
        self.refused(desk, "reach 3 0", NoPlace, (3, 0))
        self.told(desk, "wall 0 2", [])
        self.told(desk, "show", ["..#."])


class Go(Asked):
    def test_without_the_third_blank(self):
        desk = desk_of(HALL)
        for line in ("go", "go 0", "go 0 0", "go 0 1", "go 9 9", "go 0 2"):
            self.refused(desk, line, NoAsk)

    def test_with_none_behind_it(self):
        desk = desk_of(HALL)
        for place in free_places(HALL):
            self.told(desk, f"go {row_of(*place)} ", [row_of(*place)])

    def test_where_one_comes_to(self):
        desk = desk_of(ROOM)
        for place, headings in product(free_places(ROOM), ("e", "n", "s", "w", "ee", "es", "ssw", "enw", "wwe")):
            way = followed(place, headings)
            line = f"go {row_of(*place)} {runs_by_the_words(headings)}"
            if all(one in free_places(ROOM) for one in way):
                self.told(desk, line, [row_of(*way[-1])])
            else:
                self.refused(desk, line, NoWay)

    def test_wrong_runs(self):
        desk = desk_of(HALL)
        for text, word in (
            (" ", 0), (" e1", 0), ("e1 ", 1), ("s1  e1", 1), ("e", 0), ("e0", 0), ("e01", 0), ("x1", 0),
            ("s1 s1", 1), ("s1 e1 n", 2), ("E1", 0), ("s1 +1", 1), ("s+1", 0), ("s1\n", 0), ("s1\ne1", 0),
            ("\n", 0), ("s1/e1", 0), ("1", 0), ("0 0", 0), ("s1 e2 n1 n1", 3),
        ):
            # From a free place, a wall, and a place that is not there: the words go ahead.
            for place in ("0 1", "0 2", "9 9"):
                self.refused(desk, f"go {place} {text}", NoRuns, word)

    def test_into_a_wall_or_out(self):
        desk = desk_of(HALL)
        for text in ("e1", "n1", "s3", "s1 w1", "s1 e3", "s1 e2 n2", "e1 w1", "e999999", "w1 s1"):
            self.refused(desk, "go 0 1 " + text, NoWay)

    def test_from_a_place_that_is_not_free(self):
        desk = desk_of(HALL)
        for place in ("0 2", "1 0", "3 0", "0 4", "999999 999999"):
            for text in ("", "e1", "s1 w1"):
                self.refused(desk, f"go {place} {text}", NoWay)


class Deeds(Asked):
    def same_as(self, desk, grid, at):
        """What the lines tell is as of the grid; `at` tells which places are asked about."""
        free = sorted(free_places(grid))
        if free:
            one, other = free[at * 7 % len(free)], free[at * 13 % len(free)]
            for line, rows in answers_by_the_words(grid, one, other, at).items():
                self.told(desk, line, rows)
        self.told(desk, "show", list(grid))

    def test_the_same_questions_behind_each_of_many_deeds(self):
        lines = ["show", "widest", "reach 0 0", "go 0 0 e1 s1"] + [
            word + " 0 0 3 4" for word in ("least", "way", "by", "price 3", "stairs")
        ]
        desk, walls = desk_of(("." * 5,) * 4), set()
        for at, (row, column) in enumerate(zip(drawn(3, 349, 4), drawn(4, 349, 5))):
            self.told(desk, f"{'free' if (row, column) in walls else 'wall'} {row} {column}", [])
            walls ^= {(row, column)}
            fresh = desk_of(walled(4, 5, walls))
            for line in lines:
                self.assertEqual(refused_by(desk, line), refused_by(fresh, line), (walls, line))
            self.same_as(desk, walled(4, 5, walls), at)

    def test_big_grids_with_new_ones_between(self):
        desk = Desk()
        for part, grid in enumerate((OPEN, SPIRAL, made(12, 12, 8, 25))):
            self.told(desk, text_of(grid), [])
            walls = walls_of(grid)
            for at, place in enumerate(zip(drawn(part, 110, 12), drawn(part + 20, 110, 12))):
                self.told(desk, f"{'free' if place in walls else 'wall'} {row_of(*place)}", [])
                walls ^= {place}
                if at % 10 == 0:
                    self.same_as(desk, walled(12, 12, walls), at)

    def test_behind_refusals_all_is_told_as_ahead(self):
        desk = desk_of(HALL)
        wrong = NO_LINES[::7] + ("grid .../..", "grid ", "wall 0 2", "free 0 0", "go 0 0 e5", "go 0 0 x", "reach 9 9")
        for line in wrong:
            self.assertIn(refused_by(desk, line)[0], REFUSALS)
            for good, rows in TOLD[::4]:
                self.told(desk, good, rows)


class TwoAndTold(Asked):
    """Promises 2 and 3 of desks."""

    def test_told_lists_are_the_askers_own(self):
        desk = desk_of(HALL)
        told = [(line, desk.ask(line), rows) for line, rows in TOLD]
        for line, rows, as_told in told:
            kept = list(rows)
            rows.append("more")
            rows[0] = "other"
            rows.clear()
            self.told(desk, line, kept)
            self.assertEqual(kept, as_told)
        for line in ("wall 0 0", "free 0 0", "grid .."):
            rows = desk.ask(line)
            rows.append("more")
        self.told(desk, "wall 0 0", [])

    def test_a_told_list_stays_as_it_was_told(self):
        desk = desk_of(ROOM)
        shown, told = desk.ask("show"), desk.ask("least 0 1 2 1")
        desk.ask("wall 1 1")
        desk.ask("show").clear()
        desk.ask("grid #")
        self.assertEqual((shown, told), (["...", "...", "..."], ["0 2"]))

    def test_two_desks_by_turns(self):
        one, other = desk_of(HALL), desk_of(RING)
        self.told(one, "show", list(HALL))
        self.told(other, "wall 0 0", [])
        self.told(one, "reach 0 0", ["9"])
        self.told(one, "free 0 2", [])
        self.told(other, "show", ["#..", ".#.", "..."])
        self.told(other, "least 0 1 2 1", ["2 4"])
        self.told(one, "show", ["....", "#...", "..#."])
        self.told(Desk(), "show", ["."])
        other.ask("grid .")
        self.told(one, "least 0 0 0 3", ["0 3"])

    def test_the_same_asked_again_is_answered_the_same(self):
        desk = desk_of(HALL)
        for _ in range(3):
            for line, rows in TOLD:
                self.told(desk, line, rows)
            for line in NO_LINES[::5]:
                self.refused(desk, line, NoAsk)
        self.told(desk_of(HALL), "widest", desk.ask("widest"))


if __name__ == "__main__":
    unittest.main()
