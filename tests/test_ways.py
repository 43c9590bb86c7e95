"""Promises 5 and 6: places, ways, their turns and lengths."""

import unittest
from itertools import product

from fewturns.errors import NoWay, TurnError
from fewturns.grids.ways import is_way, turns_of
from tests.grounds import FAR, HALL, ROOM, STEPS, followed, free_places, snake, turns_in


def way_by_the_words(grid, way):
    free = free_places(grid)
    beside = all(
        abs(one[0] - other[0]) + abs(one[1] - other[1]) == 1
        for one, other in zip(way, way[1:])
    )
    return len(way) > 0 and all(place in free for place in way) and beside


class Looker(unittest.TestCase):
    def yes(self, grid, way):
        self.assertIs(is_way(grid, way), True, (grid, way))

    def no(self, grid, way):
        self.assertIs(is_way(grid, way), False, (grid, way))

    def test_none_is_no_way(self):
        self.no((".",), ())
        self.no(("#",), ())
        self.no(ROOM, ())

    def test_a_single_free_place_is_a_way(self):
        self.yes((".",), ((0, 0),))
        for place in free_places(HALL):
            self.yes(HALL, (place,))

    def test_a_single_wall_is_none(self):
        self.no(("#",), ((0, 0),))
        self.no(HALL, ((0, 2),))
        self.no(HALL, ((1, 0),))

    def test_places_beside_the_grid(self):
        for at in range(3):
            for place in ((-1, at), (3, at), (at, -1), (at, 3)):
                self.no(ROOM, (place,))
        for place in ((-1, -1), (-1, 3), (3, -1), (3, 3)):
            self.no(ROOM, (place,))

    def test_a_way_may_not_leave_the_grid(self):
        self.no(ROOM, ((0, 0), (-1, 0)))
        self.no(ROOM, ((0, 0), (0, -1)))
        self.no(ROOM, ((2, 2), (3, 2)))
        self.no(ROOM, ((2, 2), (2, 3)))
        self.no(ROOM, ((0, 0), (-1, 0), (0, 0)))
        self.no(ROOM, ((-1, 0), (0, 0)))

    def test_rows_and_columns_are_not_mixed_up(self):
        self.yes(("....",), ((0, 3),))
        self.no(("....",), ((3, 0),))
        self.yes((".", ".", ".", "."), ((3, 0),))
        self.no((".", ".", ".", "."), ((0, 3),))

    def test_numbers_below_nought_count_not_from_behind(self):
        for number in range(-13, 0):
            self.no(ROOM, ((number, 0),))
            self.no(ROOM, ((0, number),))
            self.no(ROOM, ((number, number),))
        self.no(ROOM, ((-3, -3), (-3, -2)))
        self.no((".",), ((-1, 0),))
        self.no((".",), ((0, -1),))

    def test_far_places_are_in_no_grid(self):
        for number in (FAR, -FAR, FAR - 1, 12, 13, 200):
            self.no(ROOM, ((number, 0),))
            self.no(ROOM, ((0, number),))
            self.no(ROOM, ((number, number), (number, number + 1)))
            self.no(ROOM, ((0, 0), (0, number)))
            self.no(ROOM, ((0, 0), (number, 0)))

    def test_each_heading_goes_to_a_place_beside(self):
        for heading in STEPS:
            self.yes(ROOM, followed((1, 1), heading))

    def test_a_place_told_twice_in_a_row_is_no_step(self):
        self.no((".",), ((0, 0), (0, 0)))
        self.no(ROOM, ((0, 0), (0, 1), (0, 1)))
        self.no(ROOM, ((0, 0), (0, 0), (0, 1)))

    def test_slantwise_is_no_step(self):
        for down, right in ((1, 1), (1, -1), (-1, 1), (-1, -1)):
            self.no(ROOM, ((1, 1), (1 + down, 1 + right)))

    def test_two_at_once_are_no_step(self):
        self.no(ROOM, ((0, 0), (0, 2)))
        self.no(ROOM, ((0, 0), (2, 0)))
        self.no(ROOM, ((0, 2), (0, 0)))
        self.no(ROOM, ((2, 0), (0, 0)))
        self.no(ROOM, ((0, 0), (0, 1), (2, 1)))

    def test_a_row_goes_not_on_into_the_next(self):
        self.no(ROOM, ((0, 2), (1, 0)))
        self.no(ROOM, ((1, 0), (0, 2)))

    def test_back_and_forth(self):
        self.yes(ROOM, followed((0, 0), "ewewew"))
        self.yes(ROOM, followed((0, 0), "snsnse"))
        self.yes(ROOM, followed((0, 0), "esw" + "nesw"))

    def test_through_a_wall(self):
        self.no(HALL, ((0, 1), (0, 2)))
        self.no(HALL, ((0, 2), (0, 3)))
        self.no(HALL, ((0, 1), (0, 2), (0, 3)))
        self.no(HALL, ((0, 1), (0, 3)))
        self.no(HALL, ((0, 0), (1, 0), (2, 0)))
        self.yes(HALL, ((0, 1), (1, 1), (1, 2), (1, 3), (0, 3)))

    def test_all_short_tuples_are_as_the_words_say(self):
        pairs = list(product(range(-2, 4), range(-2, 4)))
        for grid in (("..", ".."), (".#", ".."), ("..#", ".#.")):
            for way in product(pairs, repeat=2):
                self.assertIs(is_way(grid, way), way_by_the_words(grid, way), (grid, way))
        for grid in ((".#", ".."), ("..#",)):
            pairs = list(product(range(-1, 3), range(-1, 4)))
            for way in product(pairs, repeat=3):
                self.assertIs(is_way(grid, way), way_by_the_words(grid, way), (grid, way))

    def test_ways_of_two_hundred_places(self):
        grid = ("." * 12,) * 12
        way = snake(grid) + tuple(reversed(snake(grid)))[1:57]
        self.assertEqual(len(way), 200)
        self.yes(grid, way)
        self.no(grid, way[:-1] + ((0, 0),))
        self.no(grid, ((11, 11),) + way[1:])
        self.no(grid, way[:100] + way[101:])


class Turns(unittest.TestCase):
    def told(self, grid, way, turns, length):
        pair = turns_of(grid, way)
        self.assertEqual(pair, (turns, length), (grid, way))
        self.assertIs(type(pair), tuple)
        self.assertEqual([type(number) for number in pair], [int, int])

    def test_one_place(self):
        self.told((".",), ((0, 0),), 0, 0)
        self.told(ROOM, ((2, 1),), 0, 0)

    def test_one_step_has_no_turn(self):
        for heading in STEPS:
            self.told(ROOM, followed((1, 1), heading), 0, 1)

    def test_straight_on(self):
        self.told(ROOM, followed((0, 0), "ee"), 0, 2)
        self.told(ROOM, followed((2, 0), "nn"), 0, 2)
        self.told(ROOM, followed((0, 0), "ss"), 0, 2)
        self.told(ROOM, followed((0, 2), "ww"), 0, 2)
        self.told(("." * 12,), followed((0, 0), "e" * 11), 0, 11)

    def test_a_turn(self):
        self.told(ROOM, followed((0, 0), "es"), 1, 2)
        self.told(ROOM, followed((0, 0), "eess"), 1, 4)
        self.told(ROOM, followed((0, 0), "esw"), 2, 3)
        self.told(ROOM, followed((0, 0), "eses"), 3, 4)

    def test_back_is_a_turn(self):
        self.told(ROOM, followed((0, 0), "ew"), 1, 2)
        self.told(ROOM, followed((0, 0), "sn"), 1, 2)
        self.told(ROOM, followed((0, 0), "eeww"), 1, 4)

    def test_to_and_fro(self):
        self.told(("..",), followed((0, 0), "ew" * 10), 19, 20)
        self.told((".", "."), followed((0, 0), "sn" * 7 + "s"), 14, 15)

    def test_a_turn_and_back_into_the_old_heading(self):
        self.told(ROOM, followed((0, 0), "ese"), 2, 3)
        self.told(ROOM, followed((0, 0), "eswes"), 4, 5)

    def test_two_hundred_places(self):
        grid = ("." * 12,) * 12
        way = snake(grid)
        self.told(grid, way, 22, 143)
        back = way + tuple(reversed(way))[1:57]
        self.assertEqual(len(back), 200)
        self.told(grid, back, 22 + 1 + 8, 199)
        self.told(("..",), followed((0, 0), "ew" * 99 + "e"), 198, 199)

    def test_all_ways_by_their_headings(self):
        for grid in (ROOM, HALL, ("...", ".#.", "...")):
            free = free_places(grid)
            for place in sorted(free):
                for length in range(6):
                    for headings in product("ensw", repeat=length):
                        way = followed(place, headings)
                        if all(one in free for one in way):
                            self.told(grid, way, turns_in(headings), length)
                        elif length < 4:
                            self.assertRaises(NoWay, turns_of, grid, way)


class Refused(unittest.TestCase):
    WRONG = (
        (),
        ((0, 2),),
        ((1, 0),),
        ((-1, -1),),
        ((3, 0),),
        ((0, 4),),
        ((FAR, -FAR),),
        ((0, 0), (0, 0)),
        ((0, 0), (1, 1)),
        ((1, 1), (1, 3)),
        ((0, 1), (0, 2), (0, 3)),
        ((0, 1), (0, 3)),
        ((0, 0), (0, -1)),
        ((1, 1), (1, 2), (1, 3), (1, 4)),
    )

    def test_what_is_no_way_is_refused(self):
        for way in self.WRONG:
            with self.assertRaises(NoWay) as caught:
                turns_of(HALL, way)
            self.assertIsInstance(caught.exception, TurnError)
            self.assertIs(type(str(caught.exception)), str)

    def test_refused_where_the_looker_says_no(self):
        pairs = list(product(range(-1, 3), range(-1, 3)))
        for way in product(pairs, repeat=3):
            if is_way((".#", ".."), way):
                self.assertEqual(turns_of((".#", ".."), way)[1], 2)
            else:
                self.assertRaises(NoWay, turns_of, (".#", ".."), way)

    def test_the_good_one_is_told_as_ever_behind_a_refusal(self):
        good = followed((0, 1), "seen")
        for way in self.WRONG:
            self.assertRaises(NoWay, turns_of, HALL, way)
            self.assertEqual(turns_of(HALL, good), (2, 4))
            self.assertRaises(NoWay, turns_of, HALL, way)


class TheWhole(unittest.TestCase):
    """Promise 2: nothing is changed, and the same is answered again."""

    def test_what_is_handed_in_stays_as_it_was(self):
        grid = tuple(list(HALL))
        for headings in ("", "e", "seen", "ew", "nn", "ees"):
            way = followed((0, 1), headings)
            is_way(grid, way)
            try:
                turns_of(grid, way)
            except NoWay:
                pass
            self.assertEqual(grid, ("..#.", "#...", "..#."))
            self.assertEqual(way, followed((0, 1), headings))

    def test_the_same_asked_again_is_answered_the_same(self):
        good, wrong = followed((0, 1), "seen"), followed((0, 1), "e")
        for _ in range(3):
            self.assertIs(is_way(HALL, good), True)
            self.assertIs(is_way(HALL, wrong), False)
            self.assertEqual(turns_of(HALL, good), (2, 4))
            self.assertEqual(turns_of(ROOM, wrong), (0, 1))

    def test_one_grid_tells_nothing_of_another_one(self):
        way = ((0, 0), (0, 1))
        for grid, told in ((("..",), True), ((".#",), False), (("#.",), False), ((".", "."), False)):
            self.assertIs(is_way(grid, way), told)
        self.assertIs(is_way(("..",), way), True)


if __name__ == "__main__":
    unittest.main()
