"""Promises 13 and 14: length held against turns, and the least cost of both."""

import unittest
from itertools import product

from fewturns.least.prices import least_cost, lengths_by_turns
from fewturns.least.ways import least_turns
from tests.grounds import (
    COMB, HALL, OPEN, PARTS, RING, ROOM, ROUND, SPIRAL, STEPPED, all_grids, costs_by_queue, free_places, made,
    pairs_by_steps, pairs_of_all_ways,
)
from tests.refusals import PlacesRefused

# From (0, 3) to (11, 7) there are four pairs.
FOUR = made(12, 12, 161, 26)
BIG = (OPEN, COMB, SPIRAL, FOUR, ("." * 12,), (".",) * 12) + tuple(
    made(12, 12, seed, walls) for seed, walls in enumerate((3, 10, 18, 26, 40))
)
MIDDLING = (HALL, PARTS, RING, ROUND, STEPPED) + tuple(made(6, 7, seed, 15 + seed) for seed in range(15))
PRICES = (0, 1, 2, 3, 100, 999999, 10 ** 6)


def shortest_of(grid, one):
    """By last place the steps of the shortest way, turns aside."""
    free, steps, met = free_places(grid), {one: 0}, [one]
    for row, column in met:
        for place in ((row, column + 1), (row - 1, column), (row + 1, column), (row, column - 1)):
            if place in free and place not in steps:
                steps[place] = steps[(row, column)] + 1
                met.append(place)
    return steps


class ByTurns(unittest.TestCase):
    def told(self, grid, one, other, pairs):
        told = lengths_by_turns(grid, one, other)
        self.assertEqual(told, pairs, (grid, one, other))
        self.assertIs(type(told), tuple)
        for pair in told:
            self.assertEqual([type(pair), type(pair[0]), type(pair[1])], [tuple, int, int])

    def all_told(self, grid, pairs_from, ones=None):
        for one in ones or free_places(grid):
            pairs = pairs_from(grid, one)
            for other in free_places(grid):
                self.told(grid, one, other, pairs.get(other, ()))

    def test_one_place_and_itself(self):
        for grid in (HALL, PARTS, OPEN, STEPPED, (".",), ("..",)):
            for place in free_places(grid):
                self.told(grid, place, place, ((0, 0),))

    def test_a_straight_line(self):
        self.told(OPEN, (0, 0), (0, 11), ((0, 11),))
        self.told(OPEN, (7, 3), (2, 3), ((0, 5),))
        self.told(ROOM, (1, 1), (1, 0), ((0, 1),))
        self.told(("." * 12,), (0, 11), (0, 2), ((0, 9),))

    def test_more_turns_make_it_shorter(self):
        self.told(ROUND, (0, 0), (2, 3), ((2, 9), (3, 5)))
        self.told(ROUND, (2, 3), (0, 0), ((2, 9), (3, 5)))

    def test_more_turns_make_it_shorter_again_and_again(self):
        # Three turns make it no shorter than two: there is no pair of them.
        self.told(STEPPED, (0, 0), (5, 3), ((2, 12), (4, 10), (5, 8)))
        self.told(STEPPED, (5, 3), (0, 0), ((2, 12), (4, 10), (5, 8)))
        self.told(FOUR, (0, 3), (11, 7), ((3, 23), (4, 19), (6, 17), (8, 15)))

    def test_no_number_of_turns_makes_it_shorter(self):
        self.told(OPEN, (0, 0), (11, 11), ((1, 22),))
        self.told(OPEN, (11, 0), (0, 11), ((1, 22),))
        self.told(RING, (0, 1), (2, 1), ((2, 4),))
        self.told(HALL, (0, 1), (0, 3), ((2, 4),))
        self.told(COMB, (11, 0), (11, 10), ((2, 32),))

    def test_no_way(self):
        self.told(PARTS, (0, 0), (0, 4), ())
        self.told(PARTS, (0, 4), (0, 0), ())
        self.told(PARTS, (0, 0), (1, 1), ())
        self.told((".#.",), (0, 0), (0, 2), ())

    def test_held_against_all_ways(self):
        for grid in all_grids(3, 3):
            self.all_told(grid, pairs_of_all_ways)
        for grid in [ROUND, ("..#.", ".#..", "....")] + [made(4, 4, seed, 45) for seed in range(8)]:
            self.all_told(grid, pairs_of_all_ways, sorted(free_places(grid))[::3])

    def test_the_steps_tell_what_all_ways_tell(self):
        for grid in (ROUND, HALL, RING, ("..#..",), ("..#", ".#.", "...")):
            for one in sorted(free_places(grid))[::3]:
                self.assertEqual(pairs_by_steps(grid, one), pairs_of_all_ways(grid, one))

    def test_grids_of_middling_size(self):
        for grid in MIDDLING:
            self.all_told(grid, pairs_by_steps, sorted(free_places(grid))[::2])

    def test_big_grids(self):
        for grid in BIG:
            places = sorted(free_places(grid))
            self.all_told(grid, pairs_by_steps, (places[0], places[len(places) // 2]))

    def test_first_pair_and_last_pair(self):
        for grid in BIG + MIDDLING:
            places = sorted(free_places(grid))
            for one in places[::29]:
                shortest = shortest_of(grid, one)
                for other in places[::5]:
                    pairs = lengths_by_turns(grid, one, other)
                    self.assertEqual(pairs[0] if pairs else None, least_turns(grid, one, other))
                    self.assertEqual(pairs[-1][1] if pairs else None, shortest.get(other))
                    for (turns, length), (more, less) in zip(pairs, pairs[1:]):
                        self.assertLess(turns, more)
                        self.assertGreater(length, less)


class Cost(unittest.TestCase):
    def told(self, grid, one, other, price, cost):
        told = least_cost(grid, one, other, price)
        self.assertEqual(told, cost, (grid, one, other, price))
        self.assertIs(type(told), type(cost))

    def test_by_hand(self):
        # Two turns and nine steps, or three turns and five steps.
        for price, cost in ((0, 5), (1, 8), (2, 11), (3, 14), (4, 17), (5, 19), (100, 209), (10 ** 6, 2000009)):
            self.told(ROUND, (0, 0), (2, 3), price, cost)
        # ((2, 12), (4, 10), (5, 8))
        for price, cost in ((0, 8), (1, 13), (2, 16), (100, 212)):
            self.told(STEPPED, (0, 0), (5, 3), price, cost)

    def test_one_place_and_itself(self):
        for price in PRICES:
            for grid in (HALL, PARTS, (".",)):
                for place in free_places(grid):
                    self.told(grid, place, place, price, 0)

    def test_a_straight_line_has_no_price(self):
        for price in PRICES:
            self.told(OPEN, (0, 0), (0, 11), price, 11)
            self.told(ROOM, (2, 0), (0, 0), price, 2)

    def test_no_way(self):
        for price in PRICES:
            self.told(PARTS, (0, 0), (0, 4), price, None)
            self.told((".#.",), (0, 2), (0, 0), price, None)

    def test_no_price_tells_the_shortest_length(self):
        for grid in BIG + MIDDLING:
            places = sorted(free_places(grid))
            shortest = shortest_of(grid, places[0])
            for other in places:
                self.told(grid, places[0], other, 0, shortest.get(other))

    def test_held_against_the_pairs(self):
        for grid in BIG + MIDDLING:
            places = sorted(free_places(grid))
            pairs = pairs_by_steps(grid, places[-1])
            for price, other in product(PRICES, places[::7]):
                costs = [length + price * turns for turns, length in pairs.get(other, ())]
                self.told(grid, places[-1], other, price, min(costs, default=None))

    def test_held_against_ways_by_their_cost(self):
        for grid in MIDDLING + (FOUR,):
            places = sorted(free_places(grid))
            for price in PRICES:
                costs = costs_by_queue(grid, places[3], price)
                for other in places:
                    self.told(grid, places[3], other, price, costs.get(other))


class Refused(PlacesRefused, unittest.TestCase):
    ASKS = (lengths_by_turns,) + tuple(
        lambda grid, one, other, price=price: least_cost(grid, one, other, price) for price in (0, 1, 10 ** 6)
    )


class TheWhole(unittest.TestCase):
    """Promise 2."""

    def test_the_same_asked_again_is_answered_the_same(self):
        grid = tuple(list(ROUND))
        for _ in range(2):
            self.assertEqual(lengths_by_turns(grid, (0, 0), (2, 3)), ((2, 9), (3, 5)))
            self.assertEqual(least_cost(grid, (0, 0), (2, 3), 1), 8)
            self.assertEqual(lengths_by_turns(PARTS, (0, 0), (0, 4)), ())
            self.assertEqual(grid, ROUND)


if __name__ == "__main__":
    unittest.main()
