"""Promises 15 and 16: ways of just so many steps, and stairs, counted by their turns."""

import unittest
from itertools import product
from math import comb

from fewturns.counts.ways import count_stairs, count_ways
from tests.grounds import (
    HALL, OPEN, PARTS, RING, ROOM, SMALL, all_grids, all_ways, counted_back, free_places, made, turns_in,
)
from tests.refusals import PlacesRefused

GRIDS = (HALL, PARTS, RING, ROOM) + tuple(made(3, 4, seed, 30) for seed in range(5))
SMALL_GRIDS = (SMALL,) + tuple(made(8, 8, seed, walls) for seed, walls in enumerate((5, 15, 30, 45)))
BIG = (OPEN,) + tuple(made(12, 12, seed, walls) for seed, walls in enumerate((3, 10, 20)))


def tuple_of(turns):
    """How often each number of turns stands there, from 0 to the greatest."""
    return tuple(turns.count(number) for number in range(max(turns, default=-1) + 1))


def counts_by_the_words(grid, one, steps):
    """A dict from last places to how many ways of so many steps come to them, by turns."""
    found = {place: [] for place in free_places(grid)}
    for headings, last in all_ways(grid, one, steps):
        if len(headings) == steps:
            found[last].append(turns_in(headings))
    return {place: tuple_of(turns) for place, turns in found.items()}


def many_by_steps(grid, one, other, steps):
    """How many ways of so many steps there are at all, turns aside."""
    free = free_places(grid)
    many = {one: 1}
    for _ in range(steps):
        more = {}
        for (row, column), number in many.items():
            for place in ((row, column + 1), (row - 1, column), (row + 1, column), (row, column - 1)):
                if place in free:
                    more[place] = more.get(place, 0) + number
        many = more
    return many.get(other, 0)


def open_stairs(down, right):
    """Of the open grid: the cuts of both lengths into runs, the first one e or s."""
    def pieces(length, runs):
        return comb(length - 1, runs - 1) if length > 0 and runs > 0 else int(length == runs == 0)

    if down == right == 0:
        return (1,)
    row = []
    for runs in range(1, down + right + 1):
        more, less = (runs + 1) // 2, runs // 2
        row.append(pieces(right, more) * pieces(down, less) + pieces(down, more) * pieces(right, less))
    while row[-1] == 0:
        row.pop()
    return tuple(row)


class Asked(unittest.TestCase):
    def same(self, told, counts, asked):
        self.assertEqual(told, counts, asked)
        self.assertIs(type(told), tuple)
        self.assertTrue(all(type(number) is int for number in told))


class Ways(Asked):
    def told(self, grid, one, other, steps, counts):
        self.same(count_ways(grid, one, other, steps), counts, (grid, one, other, steps))

    def test_no_steps(self):
        for grid in GRIDS + (("." * 8,), (".",)):
            for one, other in product(free_places(grid), repeat=2):
                self.told(grid, one, other, 0, (1,) if one == other else ())

    def test_one_step(self):
        self.told(ROOM, (1, 1), (1, 2), 1, (1,))
        self.told(ROOM, (1, 1), (0, 2), 1, ())
        self.told(ROOM, (1, 1), (1, 1), 1, ())
        self.told((".",), (0, 0), (0, 0), 1, ())

    def test_two_steps_there_and_back(self):
        self.told(ROOM, (1, 1), (1, 1), 2, (0, 4))
        self.told(ROOM, (0, 0), (1, 1), 2, (0, 2))
        self.told(ROOM, (0, 0), (0, 2), 2, (1,))

    def test_noughts_where_no_way_has_so_many_turns(self):
        # To and fro alone: each step but the first is a turn.
        self.told(("..",), (0, 0), (0, 1), 5, (0, 0, 0, 0, 1))
        self.told(("..",), (0, 0), (0, 0), 12, (0,) * 11 + (1,))
        self.told((".", "."), (1, 0), (1, 0), 4, (0, 0, 0, 1))
        self.told(("...",), (0, 0), (0, 2), 4, (0, 0, 2))
        self.told(("..#", "#.."), (0, 0), (1, 2), 3, (0, 0, 1))

    def test_no_way_of_so_many_steps(self):
        self.told(ROOM, (0, 0), (2, 2), 2, ())
        self.told(PARTS, (0, 0), (0, 0), 2, ())
        self.told(PARTS, (0, 0), (0, 4), 8, ())
        self.told((".#.",), (0, 0), (0, 2), 2, ())
        self.told(SMALL, (0, 0), (7, 7), 12, ())

    def test_steps_of_the_other_parity(self):
        for grid in GRIDS[:4]:
            for one, other in product(free_places(grid), repeat=2):
                for steps in range(13):
                    if (sum(one) + sum(other) + steps) % 2 == 1:
                        self.told(grid, one, other, steps, ())

    def test_held_against_all_ways(self):
        for grid in GRIDS:
            for one in free_places(grid):
                for steps in range(6):
                    counts = counts_by_the_words(grid, one, steps)
                    for other in free_places(grid):
                        self.told(grid, one, other, steps, counts[other])

    def test_all_small_grids(self):
        for grid in all_grids(2, 3):
            for one in free_places(grid):
                for steps in (3, 4, 7):
                    counts = counts_by_the_words(grid, one, steps)
                    for other in free_places(grid):
                        self.told(grid, one, other, steps, counts[other])

    def test_eight_rows_and_columns_up_to_twelve_steps(self):
        for grid in SMALL_GRIDS:
            places = sorted(free_places(grid))
            for steps in range(13):
                for one, other in zip(places[::9], places[::9][1:] + places[:1]):
                    counts = counted_back(grid, one, other, steps, "ensw")
                    self.told(grid, one, other, steps, counts)
                    self.assertEqual(sum(counts), many_by_steps(grid, one, other, steps))

    def test_twelve_steps_by_hand(self):
        # From the corner there is room for six steps out, by e or s, and home; from (3, 3) there is not.
        self.assertEqual(count_ways(SMALL, (0, 0), (0, 0), 12)[:2], (0, 2))
        self.assertEqual(count_ways(SMALL, (3, 3), (3, 3), 12)[:2], (0, 0))
        # One step back on the way, behind any step.
        self.told(("." * 8,), (0, 0), (0, 7), 7, (1,))
        self.told(("." * 8,), (0, 0), (0, 7), 9, (0, 0, 7))

    def test_from_and_to_are_told_the_same(self):
        for grid in GRIDS[:3]:
            for one, other in product(free_places(grid), repeat=2):
                self.assertEqual(count_ways(grid, one, other, 6), count_ways(grid, other, one, 6))


class Stairs(Asked):
    def told(self, grid, one, other, counts):
        self.same(count_stairs(grid, one, other), counts, (grid, one, other))

    def test_one_place_and_itself(self):
        for grid in GRIDS:
            for place in free_places(grid):
                self.told(grid, place, place, (1,))

    def test_one_row_and_one_column(self):
        for length in range(1, 12):
            self.told(OPEN, (4, 0), (4, length), (1,))
            self.told(OPEN, (0, 4), (length, 4), (1,))

    def test_below_and_right(self):
        self.told(ROOM, (0, 0), (1, 1), (0, 2))
        self.told(ROOM, (0, 0), (2, 2), (0, 2, 2, 2))
        self.told(ROOM, (0, 0), (1, 2), (0, 2, 1))
        self.told(RING, (0, 0), (2, 2), (0, 2))
        self.told(("..#", "#.."), (0, 0), (1, 2), (0, 0, 1))

    def test_above_or_left(self):
        for one, other in (((1, 1), (0, 0)), ((1, 1), (0, 1)), ((1, 1), (1, 0)), ((1, 0), (0, 1)), ((0, 1), (1, 0)),
                           ((2, 0), (0, 2)), ((0, 2), (2, 0)), ((2, 0), (1, 2)), ((0, 1), (2, 0)), ((2, 2), (0, 0))):
            self.told(ROOM, one, other, ())
        self.told(OPEN, (1, 0), (0, 11), ())
        self.told(OPEN, (0, 1), (11, 0), ())
        self.told(OPEN, (11, 11), (0, 0), ())

    def test_a_wall_between(self):
        self.told((".#.",), (0, 0), (0, 2), ())
        self.told((".", "#", "."), (0, 0), (2, 0), ())
        self.told((".#", "#."), (0, 0), (1, 1), ())
        # There are ways, but none by e and s alone.
        self.told(HALL, (0, 1), (0, 3), ())
        self.told(RING, (0, 1), (2, 1), ())

    def test_open_grids_of_twelve_rows_and_columns(self):
        for down, right in product(range(12), repeat=2):
            self.told(OPEN, (0, 0), (down, right), open_stairs(down, right))
        self.told(OPEN, (2, 3), (9, 11), open_stairs(7, 8))
        self.assertEqual(sum(count_stairs(OPEN, (0, 0), (11, 11))), comb(22, 11))

    def test_held_against_all_ways(self):
        for grid in GRIDS + tuple(all_grids(3, 3)):
            for one in free_places(grid):
                found = {place: [] for place in free_places(grid)}
                for steps in range(len(grid) + len(grid[0]) - 1):
                    for headings in product("es", repeat=steps):
                        way = walked(grid, one, headings)
                        if way is not None:
                            found[way].append(turns_in(headings))
                for other in free_places(grid):
                    self.told(grid, one, other, tuple_of(found[other]))

    def test_bigger_grids_with_walls(self):
        for grid in BIG:
            places = sorted(free_places(grid))
            for one, other in product(places[::13], places[::7]):
                steps = sum(other) - sum(one)
                counts = counted_back(grid, one, other, steps, "es") if steps >= 0 else ()
                self.told(grid, one, other, counts)


def walked(grid, place, headings):
    """The last place by the headings e and s, or None where a place is not free."""
    free, (row, column) = free_places(grid), place
    for heading in headings:
        row, column = row + (heading == "s"), column + (heading == "e")
        if (row, column) not in free:
            return None
    return row, column


class Refused(PlacesRefused, unittest.TestCase):
    ASKS = (count_stairs,) + tuple(
        lambda grid, one, other, steps=steps: count_ways(grid, one, other, steps) for steps in (0, 1, 12)
    )


class TheWhole(unittest.TestCase):
    """Promise 2."""

    def test_the_same_asked_again_is_answered_the_same(self):
        grid = tuple(list(HALL))
        for _ in range(2):
            self.assertEqual(count_ways(grid, (1, 1), (1, 1), 2), (0, 3))
            self.assertEqual(count_stairs(grid, (0, 0), (2, 1)), (0, 1))
            self.assertEqual(grid, HALL)


if __name__ == "__main__":
    unittest.main()
