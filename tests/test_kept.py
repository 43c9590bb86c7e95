"""Promise 18: a grid that is kept while walls come and go."""

import unittest
from itertools import product

from fewturns.errors import NoPlace, TurnError
from fewturns.kept import KeptGrid
from tests.grounds import FAR, best_by_queue, drawn, free_places, not_free_of, reached, walled, walls_of

SIZES = ((1, 1), (1, 12), (12, 1), (2, 3), (3, 2), (4, 4), (12, 12))


def beside_of(rows, columns):
    """Places that the grid does not have: beside it on each side, below 0, far off."""
    return not_free_of(("." * columns,) * rows)


def deeds_of(rows, columns, seed, many):
    """Places in and beside the grid; what is done there hangs on whether a wall is there."""
    downs, rights = drawn(seed, many, rows + 1), drawn(seed + 1, many, columns + 1)
    return list(zip(downs, rights))


def done(kept, walls, place):
    """A wall is put up or, where there is one, taken down; the same in `walls`, unless it is refused."""
    try:
        if place in walls:
            kept.take_down(place)
            walls.remove(place)
        else:
            kept.put_up(place)
            walls.add(place)
    except NoPlace:
        pass


class Asked(unittest.TestCase):
    def refused(self, place, ask, *arguments):
        with self.assertRaises(NoPlace) as caught:
            ask(*arguments)
        self.assertEqual(caught.exception.place, place)
        self.assertIsInstance(caught.exception, TurnError)

    def least_told(self, kept, grid, one):
        """least_now and reach_now from the place tell what going through the grid tells."""
        best = best_by_queue(grid, one)
        for other in free_places(grid):
            self.assertEqual(kept.least_now(one, other), best[other][:2] if other in best else None)
        self.assertEqual(kept.reach_now(one), len(best))

    def same_as(self, kept, grid, many=2):
        """All that is told is as of the grid; the pairs and numbers from so many places."""
        self.assertEqual(kept.grid_now(), grid)
        free = sorted(free_places(grid))
        for one in free[::len(free) // many + 1]:
            self.least_told(kept, grid, one)


class AtFirst(Asked):
    def test_all_free(self):
        for rows, columns in SIZES:
            kept = KeptGrid(rows, columns)
            grid = kept.grid_now()
            self.assertEqual(grid, ("." * columns,) * rows)
            self.assertIs(type(grid), tuple)
            self.assertTrue(all(type(row) is str for row in grid))
            self.same_as(kept, grid)

    def test_rows_and_columns_are_not_mixed_up(self):
        self.assertEqual(KeptGrid(2, 3).grid_now(), ("...", "..."))
        self.assertEqual(KeptGrid(3, 2).grid_now(), ("..", "..", ".."))

    def test_kinds_of_what_is_told(self):
        kept = KeptGrid(2, 2)
        self.assertIsNone(kept.put_up((0, 1)))
        self.assertEqual(kept.grid_now(), (".#", ".."))
        pair = kept.least_now((0, 0), (1, 1))
        self.assertEqual(pair, (1, 2))
        self.assertEqual([type(pair), type(pair[0]), type(pair[1])], [tuple, int, int])
        self.assertIs(type(kept.reach_now((0, 0))), int)
        self.assertIsNone(kept.take_down((0, 1)))
        self.assertEqual(kept.grid_now(), ("..", ".."))


class Walls(Asked):
    def test_put_up_till_none_is_free_and_taken_down_again(self):
        for rows, columns in SIZES:
            kept, walls = KeptGrid(rows, columns), set()
            places = list(product(range(rows), range(columns)))
            for place in places:
                kept.put_up(place)
                walls.add(place)
                self.assertEqual(kept.grid_now(), walled(rows, columns, walls))
            for place in places:
                self.refused(place, kept.put_up, place)
                self.refused(place, kept.reach_now, place)
                self.refused(place, kept.least_now, place, place)
            for place in reversed(places):
                kept.take_down(place)
                walls.remove(place)
                self.assertEqual(kept.grid_now(), walled(rows, columns, walls))
            self.same_as(kept, ("." * columns,) * rows)

    def test_each_wall_stands_where_it_was_put_up(self):
        for place in product(range(3), range(4)):
            kept = KeptGrid(3, 4)
            kept.put_up(place)
            self.assertEqual(kept.grid_now(), walled(3, 4, {place}))
            self.same_as(kept, walled(3, 4, {place}), many=12)

    def test_parts_come_and_go(self):
        kept = KeptGrid(3, 3)
        for place in ((1, 0), (1, 1)):
            kept.put_up(place)
        self.assertEqual(kept.least_now((0, 0), (2, 0)), (2, 6))
        self.assertEqual(kept.reach_now((0, 0)), 7)
        kept.put_up((1, 2))
        self.assertIsNone(kept.least_now((0, 0), (2, 0)))
        self.assertEqual((kept.reach_now((0, 0)), kept.reach_now((2, 1))), (3, 3))
        kept.take_down((1, 0))
        self.assertEqual(kept.least_now((0, 0), (2, 0)), (0, 2))
        self.assertEqual(kept.reach_now((0, 0)), 7)

    def test_a_place_by_itself(self):
        kept = KeptGrid(2, 2)
        kept.put_up((0, 1))
        kept.put_up((1, 0))
        self.assertEqual([kept.reach_now(place) for place in ((0, 0), (1, 1))], [1, 1])
        self.assertEqual(kept.least_now((0, 0), (0, 0)), (0, 0))
        self.assertIsNone(kept.least_now((0, 0), (1, 1)))


class Refused(Asked):
    WALLS = {(0, 1), (1, 1), (2, 3)}

    def kept(self):
        kept = KeptGrid(3, 4)
        for place in sorted(self.WALLS):
            kept.put_up(place)
        return kept

    def as_ahead(self, kept):
        self.same_as(kept, walled(3, 4, self.WALLS))

    def test_put_up_of_a_wall(self):
        kept = self.kept()
        for place in sorted(self.WALLS):
            self.refused(place, kept.put_up, place)
            self.as_ahead(kept)

    def test_put_up_beside_the_grid(self):
        kept = self.kept()
        for place in beside_of(3, 4):
            self.refused(place, kept.put_up, place)
            self.as_ahead(kept)

    def test_take_down_of_a_free_place(self):
        kept = self.kept()
        for place in sorted(free_places(kept.grid_now())):
            self.refused(place, kept.take_down, place)
            self.as_ahead(kept)

    def test_take_down_beside_the_grid(self):
        kept = self.kept()
        for place in beside_of(3, 4):
            self.refused(place, kept.take_down, place)
            self.as_ahead(kept)
        full = KeptGrid(1, 1)
        full.put_up((0, 0))
        for place in beside_of(1, 1):
            self.refused(place, full.take_down, place)
            self.assertEqual(full.grid_now(), ("#",))

    def test_a_wall_taken_down_is_taken_down_once(self):
        kept = self.kept()
        kept.take_down((1, 1))
        self.refused((1, 1), kept.take_down, (1, 1))
        self.same_as(kept, walled(3, 4, self.WALLS - {(1, 1)}))

    def test_least_now_and_reach_now(self):
        kept = self.kept()
        for wrong in not_free_of(kept.grid_now()):
            self.refused(wrong, kept.reach_now, wrong)
            self.refused(wrong, kept.least_now, wrong, (0, 0))
            self.refused(wrong, kept.least_now, (0, 0), wrong)
            self.refused(wrong, kept.least_now, wrong, wrong)
            self.refused(wrong, kept.least_now, wrong, (0, 1))
            self.refused(wrong, kept.least_now, wrong, (-FAR, FAR))
        self.as_ahead(kept)


class Deeds(Asked):
    def test_held_against_a_grid_made_afresh(self):
        for rows, columns, seed in ((12, 12, 1), (12, 12, 6), (3, 4, 2), (1, 5, 3), (2, 2, 4)):
            kept, walls = KeptGrid(rows, columns), set()
            for at, place in enumerate(deeds_of(rows, columns, seed, 350)):
                done(kept, walls, place)
                self.assertEqual(kept.grid_now(), walled(rows, columns, walls))
                if at % 25 == 24:
                    self.same_as(kept, walled(rows, columns, walls))

    def test_held_against_one_with_the_same_walls_only(self):
        kept, walls = KeptGrid(8, 8), set()
        for place in deeds_of(8, 8, 9, 350):
            done(kept, walls, place)
            fresh = KeptGrid(8, 8)
            for wall in sorted(walls, key=lambda wall: wall[::-1]):
                fresh.put_up(wall)
            self.assertEqual(kept.grid_now(), fresh.grid_now())
            free = sorted(free_places(kept.grid_now()))
            for one, other in zip(free[::17], free[::-13]):
                self.assertEqual(kept.least_now(one, other), fresh.least_now(one, other))
                self.assertEqual(kept.reach_now(one), fresh.reach_now(one))
                self.assertEqual(kept.reach_now(other), len(reached(fresh.grid_now(), other)))

    def test_asked_between_the_deeds_or_not_till_the_end(self):
        asked, silent, walls = KeptGrid(6, 7), KeptGrid(6, 7), set()
        for place in deeds_of(6, 7, 11, 350):
            done(asked, set(walls), place)
            done(silent, walls, place)
            grid = asked.grid_now()
            for one in sorted(free_places(grid))[::5]:
                asked.least_now(one, min(free_places(grid)))
                asked.reach_now(one)
        self.assertEqual(asked.grid_now(), silent.grid_now())
        self.same_as(asked, walled(6, 7, walls), many=6)
        self.same_as(silent, walled(6, 7, walls), many=6)

    def test_refused_deeds_between_the_others(self):
        kept, walls = KeptGrid(5, 5), set()
        for place in deeds_of(5, 5, 13, 120):
            done(kept, walls, place)
            for wrong in not_free_of(kept.grid_now())[::9]:
                self.refused(wrong, kept.put_up, wrong)
            for wrong in sorted(free_places(kept.grid_now()))[::4] + beside_of(5, 5)[::9]:
                self.refused(wrong, kept.take_down, wrong)
            self.assertEqual(walls_of(kept.grid_now()), walls)


class TwoAndTold(Asked):
    """Promises 2 and 3 of kept grids."""

    def test_two_kept_grids_by_turns(self):
        one, other, walls, others = KeptGrid(4, 5), KeptGrid(4, 5), set(), set()
        for place, another in zip(deeds_of(4, 5, 15, 100), deeds_of(4, 5, 17, 100)):
            done(one, walls, place)
            self.assertEqual(other.grid_now(), walled(4, 5, others))
            done(other, others, another)
            self.assertEqual(one.grid_now(), walled(4, 5, walls))
            self.same_as(one, walled(4, 5, walls), many=1)
            self.same_as(other, walled(4, 5, others), many=1)

    def test_a_told_grid_stays_as_it_was_told(self):
        kept, walls, told = KeptGrid(4, 4), set(), []
        for place in deeds_of(4, 4, 19, 100):
            told.append((kept.grid_now(), walled(4, 4, walls)))
            done(kept, walls, place)
        for grid, as_told in told:
            self.assertEqual(grid, as_told)

    def test_the_same_asked_again_is_answered_the_same(self):
        kept = KeptGrid(3, 3)
        kept.put_up((1, 1))
        for _ in range(3):
            self.assertEqual(kept.grid_now(), ("...", ".#.", "..."))
            self.assertEqual(kept.least_now((0, 1), (2, 1)), (2, 4))
            self.assertEqual(kept.reach_now((0, 0)), 8)
            self.refused((1, 1), kept.put_up, (1, 1))
            self.refused((0, 0), kept.take_down, (0, 0))


if __name__ == "__main__":
    unittest.main()
