"""Promises 10 to 12: tables of least turns, the looker at them, the greatest least turns."""

import unittest

from fewturns.errors import NoPlace, TurnError
from fewturns.least.tables import table_shown, turns_from, widest
from fewturns.least.ways import least_turns
from tests.grounds import (
    COMB, HALL, OPEN, PARTS, RING, ROOM, ROUND, SPIRAL, all_grids, best_by_queue, free_places, made, not_free_of,
)

GRIDS = (HALL, PARTS, RING, ROUND, (".",), (".#.",), ("..",)) + tuple(made(5, 4, seed, 30) for seed in range(6))
BIG = (OPEN, COMB, SPIRAL) + tuple(made(12, 12, seed, walls) for seed, walls in enumerate((3, 20, 35)))


def table_by_the_words(grid, place):
    """The pairs of the table, in their order."""
    return sorted((other, best[0]) for other, best in best_by_queue(grid, place).items())


def widest_by_the_words(grid):
    """Of all pairs of places with a way the greatest turns, and the first such pair."""
    told = None
    for one in sorted(free_places(grid)):
        for other, turns in table_by_the_words(grid, one):
            if told is None or turns > told[0]:
                told = (turns, one, other)
    return told


class Table(unittest.TestCase):
    def told(self, grid, place):
        table = turns_from(grid, place)
        self.assertEqual(list(table.items()), table_by_the_words(grid, place), (grid, place))
        self.assertIs(type(table), dict)
        for at, turns in table.items():
            self.assertEqual([type(at), type(at[0]), type(at[1]), type(turns)], [tuple, int, int, int])

    def test_by_hand_and_in_order(self):
        self.assertEqual(list(turns_from(RING, (2, 1)).items()), [
            ((0, 0), 2 - 1), ((0, 1), 2), ((0, 2), 1), ((1, 0), 1), ((1, 2), 1), ((2, 0), 0), ((2, 1), 0), ((2, 2), 0),
        ])
        self.assertEqual(turns_from((".",), (0, 0)), {(0, 0): 0})
        self.assertEqual(turns_from((".#.",), (0, 2)), {(0, 2): 0})
        self.assertEqual(turns_from(("...",), (0, 1)), {(0, 0): 0, (0, 1): 0, (0, 2): 0})

    def test_what_cannot_be_come_to_is_left_out(self):
        self.assertEqual(turns_from(PARTS, (0, 0)), {(0, 0): 0})
        self.assertNotIn((0, 0), turns_from(PARTS, (0, 4)))
        self.assertEqual(turns_from(("..#..",), (0, 3)), {(0, 3): 0, (0, 4): 0})

    def test_all_small_grids(self):
        for rows, columns in ((1, 3), (3, 1), (2, 3), (3, 3)):
            for grid in all_grids(rows, columns):
                for place in free_places(grid):
                    self.told(grid, place)

    def test_bigger_grids(self):
        for grid in GRIDS + BIG:
            for place in sorted(free_places(grid))[::7]:
                self.told(grid, place)

    def test_the_numbers_are_the_least_turns(self):
        for grid in GRIDS:
            for one in free_places(grid):
                table = turns_from(grid, one)
                for other in free_places(grid):
                    pair = least_turns(grid, one, other)
                    self.assertEqual(table.get(other), pair and pair[0])

    def test_refused(self):
        for grid in GRIDS + (("#",),):
            for place in not_free_of(grid):
                with self.assertRaises(NoPlace) as caught:
                    turns_from(grid, place)
                self.assertEqual(caught.exception.place, place)
                self.assertIsInstance(caught.exception, TurnError)

    def test_a_told_dict_is_the_askers_own(self):
        first = turns_from(HALL, (0, 1))
        kept = list(first.items())
        first.clear()
        first[(0, 0)] = 9
        second = turns_from(HALL, (0, 1))
        self.assertEqual(list(second.items()), kept)
        second[(0, 1)] = 5
        del second[(0, 0)]
        self.assertEqual(list(turns_from(HALL, (0, 1)).items()), kept)
        self.assertIs(table_shown(HALL, (0, 1), dict(kept)), True)
        self.assertEqual(widest(HALL), widest_by_the_words(HALL))


class Looker(unittest.TestCase):
    def looked(self, grid, place, table, told):
        kept = list(table.items())
        self.assertIs(table_shown(grid, place, table), told, (grid, place, table))
        self.assertEqual(list(table.items()), kept)

    def test_the_table_in_any_order(self):
        for grid in GRIDS:
            for place in free_places(grid):
                rows = table_by_the_words(grid, place)
                for table in (rows, rows[::-1], rows[1::2] + rows[::2], sorted(rows, key=lambda row: row[1])):
                    self.looked(grid, place, dict(table), True)
                self.looked(grid, place, turns_from(grid, place), True)

    def test_a_number_one_more_or_less(self):
        for grid in GRIDS:
            for place in free_places(grid):
                right = dict(table_by_the_words(grid, place))
                for at in right:
                    for more in (1, -1, 10 ** 6):
                        self.looked(grid, place, {**right, at: right[at] + more}, False)

    def test_a_place_out(self):
        for grid in GRIDS:
            for place in free_places(grid):
                right = dict(table_by_the_words(grid, place))
                for gone in right:
                    self.looked(grid, place, {at: right[at] for at in right if at != gone}, False)

    def test_a_place_in(self):
        for grid in GRIDS:
            for place in free_places(grid):
                right = dict(table_by_the_words(grid, place))
                beside = [at for at in free_places(grid) if at not in right] + not_free_of(grid)
                for at in beside:
                    for turns in (0, 1, -1):
                        self.looked(grid, place, {**right, at: turns}, False)

    def test_none(self):
        for place in free_places(HALL):
            self.looked(HALL, place, {}, False)

    def test_a_table_of_another_place_or_grid(self):
        self.looked(HALL, (0, 1), dict(table_by_the_words(HALL, (0, 0))), False)
        self.looked(RING, (0, 0), dict(table_by_the_words(ROOM, (0, 0))), False)
        self.looked(ROOM, (0, 0), dict(table_by_the_words(RING, (0, 0))), False)

    def test_a_place_that_is_not_free(self):
        for grid in (HALL, ROOM, PARTS, ("#",)):
            for place in not_free_of(grid):
                self.looked(grid, place, {}, False)
                self.looked(grid, place, {place: 0}, False)
                for one in free_places(grid):
                    self.looked(grid, place, dict(table_by_the_words(grid, one)), False)


class Widest(unittest.TestCase):
    def told(self, grid):
        triple = widest(grid)
        self.assertEqual(triple, widest_by_the_words(grid), grid)
        if triple is not None:
            self.assertEqual([type(part) for part in triple], [int, tuple, tuple])
            self.assertIs(type(triple), tuple)

    def test_by_hand(self):
        self.assertEqual(widest(OPEN), (1, (0, 0), (1, 1)))
        self.assertEqual(widest(RING), (2, (0, 1), (2, 1)))
        self.assertEqual(widest(("...",)), (0, (0, 0), (0, 0)))
        self.assertEqual(widest(("#.#", "#.#")), (0, (0, 1), (0, 1)))
        self.assertEqual(widest(("#.", ".#")), (0, (0, 1), (0, 1)))

    def test_the_first_part_may_be_less_wide(self):
        self.assertEqual(widest(("...#..", "####..")), (1, (0, 4), (1, 5)))

    def test_one_free_place(self):
        self.assertEqual(widest((".",)), (0, (0, 0), (0, 0)))
        self.assertEqual(widest(("###", "##.")), (0, (1, 2), (1, 2)))

    def test_no_free_place(self):
        for grid in (("#",), ("###", "###"), ("#" * 12,) * 12):
            self.assertIsNone(widest(grid))

    def test_all_small_grids(self):
        for rows, columns in ((1, 1), (1, 4), (4, 1), (2, 3), (3, 3)):
            for grid in all_grids(rows, columns):
                self.told(grid)

    def test_bigger_grids(self):
        for grid in GRIDS + BIG[1:]:
            self.told(grid)

    def test_the_same_asked_again_is_answered_the_same(self):
        grid = tuple(list(PARTS))
        self.assertEqual(widest(grid), widest(grid))
        self.assertEqual(grid, PARTS)


if __name__ == "__main__":
    unittest.main()
