"""Promise 17: the wall whose opening saves turns, and the free places that matter."""

import unittest
from itertools import product

from fewturns.least.walls import best_opening, places_that_matter
from tests.grounds import (
    HALL, PARTS, RING, ROOM, ROUND, SMALL, all_grids, best_by_queue, free_places, made, opened, shut,
    walls_of,
)
from tests.refusals import PlacesRefused

CURL = (
    "........",
    "######.#",
    "......#.",
    ".####...",
    ".#..###.",
    ".#.##...",
    ".#....##",
    "........",
)
# One corridor, from (0, 0) to (5, 2).
SPIRAL = (
    "........",
    "#######.",
    "......#.",
    ".####.#.",
    ".####.#.",
    ".#....#.",
    ".######.",
    "........",
)
EIGHT = (SMALL, CURL, SPIRAL) + tuple(made(8, 8, seed, walls) for seed, walls in enumerate((5, 15, 25, 35, 45)))


def turns_by_the_words(grid, one):
    """By last place the least turns."""
    return {other: best[0] for other, best in best_by_queue(grid, one).items()}


def openings_by_the_words(grid, one):
    """By last place what best_opening tells."""
    tables = [(turns_by_the_words(opened(grid, wall), one), wall) for wall in sorted(walls_of(grid))]
    least = turns_by_the_words(grid, one)
    told = {}
    for other in free_places(grid):
        found = [(table[other], wall) for table, wall in tables if other in table]
        told[other] = None
        if found and (other not in least or min(found)[0] < least[other]):
            told[other] = (min(found)[1], min(found)[0])
    return told


def matter_by_the_words(grid, one):
    """By last place what places_that_matter tells."""
    tables = [(turns_by_the_words(shut(grid, place), one), place) for place in sorted(free_places(grid) - {one})]
    least = turns_by_the_words(grid, one)
    told = {}
    for other in free_places(grid):
        told[other] = tuple(
            place for table, place in tables
            if other in least and place != other and (other not in table or table[other] > least[other])
        )
    return told


class Opening(unittest.TestCase):
    def told(self, grid, one, other, opening):
        told = best_opening(grid, one, other)
        self.assertEqual(told, opening, (grid, one, other))
        if told is not None:
            place, turns = told
            self.assertEqual([type(told), type(place), type(turns)], [tuple, tuple, int])
            self.assertEqual([type(number) for number in place], [int, int])

    def test_a_wall_across_with_no_gap(self):
        across = ("...", "###", "...")
        self.told(across, (0, 1), (2, 1), ((1, 1), 0))
        self.told(across, (0, 2), (2, 2), ((1, 2), 0))
        self.told(across, (0, 0), (2, 2), ((1, 0), 1))
        self.told((".#.",), (0, 0), (0, 2), ((0, 1), 0))
        self.told((".#", "#."), (0, 0), (1, 1), ((0, 1), 1))
        self.told((".#", "#."), (1, 1), (0, 0), ((0, 1), 1))

    def test_an_opening_that_saves_turns(self):
        self.told(RING, (0, 1), (2, 1), ((1, 1), 0))
        self.told(HALL, (0, 1), (0, 3), ((0, 2), 0))
        # Without: round by the right, four turns.
        grid = ("....", "###.", "....", ".###", "....")
        self.told(grid, (0, 0), (4, 3), ((1, 0), 1))
        self.told(grid, (0, 3), (4, 3), ((3, 3), 0))

    def test_several_as_good_the_first_as_pairs(self):
        self.told(("..#", "#.."), (0, 0), (1, 2), ((0, 2), 1))
        self.told(("..#", "#.."), (1, 2), (0, 0), ((0, 2), 1))
        self.told(("....", "####", "...."), (0, 1), (2, 2), ((1, 1), 1))
        self.told((".#.", ".#.", ".#."), (0, 0), (1, 2), ((0, 1), 1))

    def test_the_first_helps_less_than_a_later_one(self):
        # Opened at (1, 0) or (1, 1) it takes more turns.
        self.told(("...", "###", "..."), (0, 2), (2, 2), ((1, 2), 0))
        self.told((".....", "#####", "....."), (0, 4), (2, 3), ((1, 3), 1))

    def test_no_opening_saves_any(self):
        self.told(("....", ".##.", "...."), (1, 0), (1, 3), None)
        self.told(("..", "##", "##", ".."), (0, 0), (3, 0), None)
        self.told(("..", ".#"), (0, 1), (1, 0), None)
        self.told(PARTS, (0, 2), (3, 3), None)

    def test_as_few_turns_and_a_shorter_length_are_none(self):
        # Opened at (1, 1) it is shorter, with two turns as ever.
        grid = ("...", ".#.", ".#.", ".#.", ".#.", "...")
        self.told(grid, (4, 0), (4, 2), ((4, 1), 0))
        grid = ("....", ".##.", ".##.", ".##.", ".##.", "....")
        self.told(grid, (3, 0), (3, 3), None)
        self.told(("...#", ".#..", "...."), (1, 0), (0, 2), None)

    def test_all_free(self):
        for one, other in product(free_places(ROOM), repeat=2):
            self.told(ROOM, one, other, None)
        self.told(SMALL, (0, 0), (7, 7), None)

    def test_no_turns_already(self):
        for grid in (HALL, PARTS, CURL, ROUND):
            for place in free_places(grid):
                self.told(grid, place, place, None)
        self.told(CURL, (0, 0), (0, 7), None)

    def test_all_small_grids(self):
        for rows, columns in ((1, 4), (4, 1), (2, 3), (3, 3)):
            for grid in all_grids(rows, columns):
                for one in free_places(grid):
                    for other, opening in openings_by_the_words(grid, one).items():
                        self.told(grid, one, other, opening)

    def test_eight_rows_and_columns(self):
        for grid in EIGHT:
            places = sorted(free_places(grid))
            for one in (places[0], places[len(places) // 2]):
                openings = openings_by_the_words(grid, one)
                for other in places[::3]:
                    self.told(grid, one, other, openings[other])


class Matter(unittest.TestCase):
    def told(self, grid, one, other, places):
        told = places_that_matter(grid, one, other)
        self.assertEqual(told, places, (grid, one, other))
        self.assertIs(type(told), tuple)
        for place in told:
            self.assertEqual([type(place), type(place[0]), type(place[1])], [tuple, int, int])

    def test_a_corridor(self):
        self.told(("." * 8,), (0, 0), (0, 7), tuple((0, at) for at in range(1, 7)))
        self.told(("." * 8,), (0, 6), (0, 2), ((0, 3), (0, 4), (0, 5)))
        self.told((".",) * 4, (3, 0), (0, 0), ((1, 0), (2, 0)))

    def test_a_spiral(self):
        # From its mouth to its heart each place between matters.
        between = tuple(sorted(free_places(SPIRAL) - {(0, 0), (5, 2)}))
        self.told(SPIRAL, (0, 0), (5, 2), between)
        self.told(SPIRAL, (5, 2), (0, 0), between)
        self.told(SPIRAL, (0, 5), (2, 7), ((0, 6), (0, 7), (1, 7)))
        self.told(SPIRAL, (2, 3), (5, 4), ((2, 4), (2, 5), (3, 5), (4, 5), (5, 5)))

    def test_one_straight_line(self):
        self.told(ROOM, (0, 0), (0, 2), ((0, 1),))
        self.told(ROOM, (2, 1), (0, 1), ((1, 1),))
        self.told(SMALL, (4, 1), (4, 6), ((4, 2), (4, 3), (4, 4), (4, 5)))

    def test_all_free_with_none(self):
        self.told(ROOM, (0, 0), (1, 1), ())
        self.told(ROOM, (0, 0), (0, 1), ())
        self.told(SMALL, (0, 0), (7, 7), ())
        self.told(SMALL, (7, 0), (0, 7), ())

    def test_more_turns_without(self):
        # There is another way, with more turns.
        self.told(("...", "..."), (0, 0), (0, 2), ((0, 1),))
        self.told(("..#", "..."), (0, 0), (1, 2), ((1, 0), (1, 1)))

    def test_as_many_turns_and_a_longer_way_without(self):
        # Round by the right it is longer, with two turns as ever.
        self.told(("....", ".#..", "...."), (0, 0), (2, 2), ())
        self.told((".....", ".###.", ".....", "....."), (0, 0), (2, 4), ())

    def test_no_way_already(self):
        self.told(PARTS, (0, 0), (0, 4), ())
        self.told((".#..",), (0, 0), (0, 3), ())
        self.told(("...", "###", "..."), (0, 0), (2, 2), ())

    def test_one_place_and_itself(self):
        for grid in (HALL, PARTS, SPIRAL, ROUND, (".",)):
            for place in free_places(grid):
                self.told(grid, place, place, ())

    def test_all_small_grids(self):
        for rows, columns in ((1, 4), (4, 1), (2, 3), (3, 3)):
            for grid in all_grids(rows, columns):
                for one in free_places(grid):
                    for other, places in matter_by_the_words(grid, one).items():
                        self.told(grid, one, other, places)

    def test_eight_rows_and_columns(self):
        for grid in EIGHT:
            free = sorted(free_places(grid))
            for one in (free[0], free[len(free) // 2]):
                matter = matter_by_the_words(grid, one)
                for other in free[::3]:
                    self.told(grid, one, other, matter[other])


class Refused(PlacesRefused, unittest.TestCase):
    ASKS = (best_opening, places_that_matter)


class TheWhole(unittest.TestCase):
    """Promise 2."""

    def test_the_same_asked_again_is_answered_the_same(self):
        grid = tuple(list(HALL))
        for _ in range(2):
            self.assertEqual(best_opening(grid, (0, 1), (0, 3)), ((0, 2), 0))
            self.assertEqual(places_that_matter(grid, (0, 1), (0, 3)), ((1, 1), (1, 2), (1, 3)))
            self.assertEqual(grid, HALL)


if __name__ == "__main__":
    unittest.main()
