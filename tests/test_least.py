"""Promises 8 and 9: the least turns, and the first of the shortest ways with them."""

import unittest
from itertools import product

from fewturns.errors import NoPlace, TurnError
from fewturns.grids.ways import turns_of
from fewturns.least.ways import first_way, least_turns
from tests.grounds import (
    COMB, FAR, HALL, OPEN, PARTS, RING, ROOM, ROUND, SPIRAL, all_grids, best_by_queue, best_of_all_ways,
    followed, free_places, made, not_free_of,
)

BIG = (OPEN, COMB, SPIRAL, ("." * 12,), (".",) * 12) + tuple(
    made(12, 12, seed, walls) for seed, walls in enumerate((2, 8, 15, 25, 35, 50))
)


def place_refused(ask, *arguments):
    """The place that the refusal keeps, or None where something is told."""
    try:
        ask(*arguments)
    except NoPlace as refusal:
        return refusal.place
    return None


class Told(unittest.TestCase):
    def told(self, grid, one, other, best):
        """Both are told as best: (turns, length, headings), or None."""
        pair, way = least_turns(grid, one, other), first_way(grid, one, other)
        if best is None:
            self.assertIsNone(pair, (grid, one, other))
            self.assertIsNone(way, (grid, one, other))
            return
        self.assertEqual(pair, best[:2], (grid, one, other))
        self.assertEqual(way, followed(one, best[2]), (grid, one, other))
        self.assertEqual([type(number) for number in pair], [int, int])
        self.assertEqual((type(pair), type(way)), (tuple, tuple))

    def all_told(self, grid, best_from):
        for one in free_places(grid):
            best = best_from(grid, one)
            for other in free_places(grid):
                self.told(grid, one, other, best.get(other))


class ByHand(Told):
    def test_one_place_and_itself(self):
        self.told((".",), (0, 0), (0, 0), (0, 0, ""))
        for place in free_places(HALL):
            self.told(HALL, place, place, (0, 0, ""))

    def test_straight(self):
        self.told(OPEN, (0, 0), (0, 11), (0, 11, "e" * 11))
        self.told(OPEN, (0, 11), (0, 0), (0, 11, "w" * 11))
        self.told(OPEN, (2, 3), (7, 3), (0, 5, "sssss"))
        self.told(OPEN, (7, 3), (2, 3), (0, 5, "nnnnn"))
        self.told(ROOM, (1, 1), (1, 2), (0, 1, "e"))

    def test_one_turn(self):
        self.told(OPEN, (0, 0), (11, 11), (1, 22, "e" * 11 + "s" * 11))
        self.told(OPEN, (11, 11), (0, 0), (1, 22, "n" * 11 + "w" * 11))
        self.told(OPEN, (0, 11), (11, 0), (1, 22, "s" * 11 + "w" * 11))
        self.told(OPEN, (11, 0), (0, 11), (1, 22, "e" * 11 + "n" * 11))

    def test_round_a_wall(self):
        self.told(RING, (1, 0), (1, 2), (2, 4, "nees"))
        self.told(RING, (0, 1), (2, 1), (2, 4, "essw"))
        self.told(RING, (1, 2), (1, 0), (2, 4, "nwws"))
        self.told(RING, (2, 1), (0, 1), (2, 4, "ennw"))
        self.told(HALL, (0, 1), (0, 3), (2, 4, "seen"))
        self.told(HALL, (0, 0), (2, 0), (2, 4, "essw"))

    def test_fewer_turns_go_ahead_of_shorter_ways(self):
        self.assertEqual(turns_of(ROUND, followed((0, 0), "seese")), (3, 5))
        self.told(ROUND, (0, 0), (2, 3), (2, 9, "sssseeenn"))
        self.told(ROUND, (2, 3), (0, 0), (2, 9, "sswwwnnnn"))

    def test_of_as_few_turns_the_shorter(self):
        # Round above are nine steps, round below are five.
        grid = ("....", ".##.", ".##.", "....", "....")
        self.told(grid, (2, 0), (2, 3), (2, 5, "seeen"))
        self.told(grid, (1, 0), (1, 3), (2, 5, "neees"))
        grid = ("....", "....", ".##.", ".##.", "....")
        self.told(grid, (2, 0), (2, 3), (2, 5, "neees"))
        self.told(grid, (3, 0), (3, 3), (2, 5, "seeen"))

    def test_of_as_short_ways_the_first_heading_by_heading(self):
        # e ahead of n, n ahead of s, s ahead of w.
        self.told(ROOM, (0, 0), (1, 1), (1, 2, "es"))
        self.told(ROOM, (2, 0), (1, 1), (1, 2, "en"))
        self.told(ROOM, (0, 2), (1, 1), (1, 2, "sw"))
        self.told(ROOM, (2, 2), (1, 1), (1, 2, "nw"))
        grid = ("....", ".#..", "..#.", "....")
        self.told(grid, (1, 0), (2, 1), (1, 2, "se"))
        self.told(grid, (0, 0), (3, 3), (1, 6, "eeesss"))

    def test_of_as_short_ways_the_first_behind_a_common_piece(self):
        # Down by several columns would do: the way goes on by e, the first heading, as long as it can.
        grid = ("..#", "#..", "...")
        self.told(grid, (0, 0), (2, 2), (2, 4, "esse"))
        grid = (".....", "#...#", ".....")
        self.told(grid, (0, 0), (2, 4), (2, 6, "eeesse"))
        self.told(grid, (2, 4), (0, 0), (2, 6, "wnnwww"))
        self.told(grid, (2, 0), (0, 4), (2, 6, "eeenne"))
        self.told(grid, (0, 4), (2, 0), (2, 6, "wsswww"))

    def test_no_way_between(self):
        self.told(PARTS, (0, 0), (0, 4), None)
        self.told(PARTS, (0, 4), (0, 0), None)
        self.told(PARTS, (1, 1), (2, 4), None)
        self.told(PARTS, (0, 0), (1, 1), None)
        self.told((".#.",), (0, 0), (0, 2), None)

    def test_comb(self):
        self.told(COMB, (11, 0), (11, 10), (2, 32, "n" * 11 + "e" * 10 + "s" * 11))
        self.told(COMB, (11, 10), (0, 11), (1, 12, "n" * 11 + "e"))

    def test_spiral(self):
        turns, length = least_turns(SPIRAL, (0, 0), (6, 5))
        self.assertEqual((turns, length), best_by_queue(SPIRAL, (0, 0))[(6, 5)][:2])
        self.assertGreater(turns, 7)


class AllWays(Told):
    def test_all_grids_of_three_rows_and_columns(self):
        for grid in all_grids(3, 3):
            self.all_told(grid, best_of_all_ways)

    def test_all_grids_of_other_small_sizes(self):
        for rows, columns in ((1, 1), (1, 2), (2, 1), (1, 5), (5, 1), (2, 2), (2, 4), (4, 2)):
            for grid in all_grids(rows, columns):
                self.all_told(grid, best_of_all_ways)

    def test_the_queue_tells_what_all_ways_tell(self):
        for grid in all_grids(3, 3):
            for place in free_places(grid):
                self.assertEqual(best_by_queue(grid, place), best_of_all_ways(grid, place))

    def test_grids_of_middling_size(self):
        for seed in range(40):
            self.all_told(made(4 + seed % 3, 6 - seed % 2, seed, 10 + seed), best_by_queue)
        self.all_told(ROUND, best_by_queue)
        self.all_told(PARTS, best_by_queue)

    def test_big_grids(self):
        for grid in BIG:
            places = sorted(free_places(grid))
            for one in places[::11] + places[-1:]:
                best = best_by_queue(grid, one)
                for other in places[::5] + places[-1:]:
                    self.told(grid, one, other, best.get(other))

    def test_the_way_is_one_with_the_turns_and_length_told(self):
        for grid in BIG:
            places = sorted(free_places(grid))
            for one, other in product(places[::17], places[::13]):
                way = first_way(grid, one, other)
                if way is None:
                    self.assertIsNone(least_turns(grid, one, other))
                else:
                    self.assertEqual((way[0], way[-1]), (one, other))
                    self.assertEqual(turns_of(grid, way), least_turns(grid, one, other))


class Refused(unittest.TestCase):
    def test_places_that_are_not_free(self):
        for grid in (HALL, ROOM, PARTS, ("#",), (".",)):
            good = sorted(free_places(grid))[:1]
            for ask, wrong in product((least_turns, first_way), not_free_of(grid)):
                for place in good:
                    self.assertEqual(place_refused(ask, grid, wrong, place), wrong)
                    self.assertEqual(place_refused(ask, grid, place, wrong), wrong)
                self.assertEqual(place_refused(ask, grid, wrong, wrong), wrong)

    def test_one_goes_ahead_of_other(self):
        for ask in (least_turns, first_way):
            for one, other in product(not_free_of(HALL), repeat=2):
                self.assertEqual(place_refused(ask, HALL, one, other), one)

    def test_where_there_is_no_way_besides(self):
        for ask in (least_turns, first_way):
            self.assertEqual(place_refused(ask, PARTS, (0, 0), (0, 1)), (0, 1))
            self.assertEqual(place_refused(ask, PARTS, (-1, 0), (0, 4)), (-1, 0))
            self.assertEqual(place_refused(ask, PARTS, (FAR, 0), (-FAR, 0)), (FAR, 0))

    def test_a_refusal_is_any_refusal_and_keeps_a_pair(self):
        for ask in (least_turns, first_way):
            with self.assertRaises(NoPlace) as caught:
                ask(HALL, (0, 0), (0, 2))
            self.assertIsInstance(caught.exception, TurnError)
            self.assertIs(type(caught.exception.place), tuple)


class TheWhole(unittest.TestCase):
    """Promise 2."""

    def test_the_same_asked_again_is_answered_the_same(self):
        grid = tuple(list(HALL))
        for _ in range(2):
            self.assertEqual(least_turns(grid, (0, 1), (0, 3)), (2, 4))
            self.assertEqual(first_way(grid, (0, 1), (0, 3)), followed((0, 1), "seen"))
            self.assertEqual(place_refused(least_turns, grid, (0, 1), (0, 2)), (0, 2))
            self.assertEqual(grid, HALL)

    def test_one_grid_tells_nothing_of_another_one(self):
        for grid, pair in ((ROOM, (0, 2)), (RING, (2, 4)), (("...", "###", "..."), None), (ROOM, (0, 2))):
            self.assertEqual(least_turns(grid, (0, 1), (2, 1)), pair)


if __name__ == "__main__":
    unittest.main()
