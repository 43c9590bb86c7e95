"""Grids for the tests, and what going through their ways one by one tells.

Nothing here asks the program: what it tells is held against this.
"""

from functools import lru_cache
from heapq import heappop, heappush
from itertools import product

STEPS = {"e": (0, 1), "n": (-1, 0), "s": (1, 0), "w": (0, -1)}
FAR = 10 ** 6

ROOM = ("...", "...", "...")
HALL = ("..#.", "#...", "..#.")
RING = ("...", ".#.", "...")
OPEN = ("." * 12,) * 12
SMALL = ("." * 8,) * 8
# Two parts without a way between, and a place by itself.
PARTS = (
    ".#...",
    "#.#..",
    "..#..",
    "..#..",
)
COMB = ("." * 12,) + (".#" * 6,) * 11
SPIRAL = (
    "............",
    "###########.",
    "..........#.",
    ".########.#.",
    ".#......#.#.",
    ".#.####.#.#.",
    ".#.#....#.#.",
    ".#.######.#.",
    ".#........#.",
    ".##########.",
    "............",
    "############",
)
# The shortest way from (0, 0) to (2, 3) has three turns, the least turns are two.
ROUND = (
    "..##",
    "...#",
    ".#..",
    ".##.",
    "....",
)
# From (0, 0) to (5, 3) the way grows shorter with two turns more, and again with a third one.
STEPPED = (
    ".......",
    "....#..",
    "#.#....",
    "#..#...",
    ".#.....",
    "..#...#",
)


def drawn(seed, many, below):
    """So many numbers below a bound, always the same for the same seed."""
    numbers, at = [], seed * 7919 + 17
    for _ in range(many):
        at = (at * 1103515245 + 12345) % 2 ** 31
        numbers.append((at >> 12) % below)
    return numbers


def made(rows, columns, seed, walls):
    """A grid with about so many walls of a hundred places, always the same for the same seed."""
    signs = "".join("#" if number < walls else "." for number in drawn(seed, rows * columns, 100))
    return tuple(signs[row * columns:(row + 1) * columns] for row in range(rows))


def walled(rows, columns, walls):
    """The grid of so many rows and columns with these walls and no others."""
    return tuple(
        "".join("#" if (row, column) in walls else "." for column in range(columns)) for row in range(rows)
    )


def walls_of(grid):
    return {(row, column) for row, line in enumerate(grid) for column, sign in enumerate(line) if sign == "#"}


def opened(grid, place):
    """The grid without the wall of the place."""
    return walled(len(grid), len(grid[0]), walls_of(grid) - {place})


def shut(grid, place):
    """The grid with a wall more."""
    return walled(len(grid), len(grid[0]), walls_of(grid) | {place})


def all_grids(rows, columns):
    """All grids of so many rows and columns."""
    lines = ["".join(signs) for signs in product(".#", repeat=columns)]
    return product(lines, repeat=rows)


def beside(place, heading):
    return (place[0] + STEPS[heading][0], place[1] + STEPS[heading][1])


def followed(place, headings):
    """The places one comes to by the headings, walls or not."""
    way = [place]
    for heading in headings:
        way.append(beside(way[-1], heading))
    return tuple(way)


def turns_in(headings):
    return sum(headings[at] != headings[at - 1] for at in range(1, len(headings)))


def free_places(grid):
    """Found by the rows' signs, not by asking the program."""
    return {
        (row, column)
        for row, line in enumerate(grid)
        for column, sign in enumerate(line)
        if sign == "."
    }


def not_free_of(grid):
    """Walls, places beside the grid on each side, below 0, and far off."""
    rows, columns = len(grid), len(grid[0])
    around = set(product(range(-2, rows + 2), range(-2, columns + 2))) - free_places(grid)
    off = {(FAR, 0), (0, FAR), (-FAR, 0), (0, -FAR), (FAR, FAR), (-FAR, -FAR), (-rows, -columns)}
    return sorted(around | off)


def snake(grid):
    """All places of an open grid, row by row, each other row backwards."""
    way = []
    for row in range(len(grid)):
        columns = range(len(grid[0]))
        way += [(row, column) for column in (columns if row % 2 == 0 else reversed(columns))]
    return tuple(way)


def all_ways(grid, place, steps):
    """(headings, last place) of all ways from the place by at most so many steps, places again and again."""
    free = free_places(grid)
    ways = [("", place)] if place in free else []
    for headings, last in ways:
        if len(headings) < steps:
            for heading in STEPS:
                if beside(last, heading) in free:
                    ways.append((headings + heading, beside(last, heading)))
    return ways


def best_of_all_ways(grid, place):
    """By last place the best (turns, length, headings) of all ways of fewer steps than free places.

    A way of more steps comes to some place again; without that detour it is
    shorter and has no more turns.
    """
    best = {}
    for headings, last in all_ways(grid, place, len(free_places(grid)) - 1):
        told = (turns_in(headings), len(headings), headings)
        if last not in best or told < best[last]:
            best[last] = told
    return best


def best_by_queue(grid, place):
    """The same, of grids of any size: ways in the order of (turns, length, headings)."""
    free = free_places(grid)
    best, met, queue = {}, set(), [(0, 0, "", place)]
    while queue:
        turns, length, headings, last = heappop(queue)
        if (last, headings[-1:]) in met:
            continue
        met.add((last, headings[-1:]))
        best.setdefault(last, (turns, length, headings))
        for heading in STEPS:
            if beside(last, heading) in free:
                turned = headings != "" and headings[-1] != heading
                more = (turns + turned, length + 1, headings + heading, beside(last, heading))
                heappush(queue, more)
    return best


def reached(grid, place):
    """The places that can be come to, step by step."""
    free, met = free_places(grid), [place]
    for last in met:
        met += [beside(last, heading) for heading in STEPS
                if beside(last, heading) in free and beside(last, heading) not in met]
    return set(met)


def falling(pairs):
    """Of pairs (turns, length) the tuple of [13]."""
    told = []
    for turns, length in sorted(pairs):
        if not told or length < told[-1][1]:
            told.append((turns, length))
    return tuple(told)


def pairs_of_all_ways(grid, place):
    """By last place the tuple of [13], of all ways of fewer steps than free places (see above)."""
    found = {}
    for headings, last in all_ways(grid, place, len(free_places(grid)) - 1):
        found.setdefault(last, set()).add((turns_in(headings), len(headings)))
    return {last: falling(pairs) for last, pairs in found.items()}


def pairs_by_steps(grid, place):
    """The same, of grids of any size: the least turns of the ways of just so many steps, one step more each time."""
    free, found, least = free_places(grid), {place: {(0, 0)}}, {(place, ""): 0}
    for length in range(1, len(free)):
        longer = {}
        for (last, ahead), turns in least.items():
            for heading, (down, right) in STEPS.items():
                behind = (last[0] + down, last[1] + right)
                if behind in free:
                    more = turns + (ahead not in ("", heading))
                    longer[(behind, heading)] = min(more, longer.get((behind, heading), more))
        least = longer
        for (last, _), turns in least.items():
            found.setdefault(last, set()).add((turns, length))
    return {last: falling(pairs) for last, pairs in found.items()}


def costs_by_queue(grid, place, price):
    """By last place the least cost, where a step costs 1 and a turn the price."""
    free, costs, met, queue = free_places(grid), {}, set(), [(0, place, "")]
    while queue:
        cost, last, ahead = heappop(queue)
        if (last, ahead) in met:
            continue
        met.add((last, ahead))
        costs.setdefault(last, cost)
        for heading in STEPS:
            if beside(last, heading) in free:
                more = cost + 1 + price * (ahead not in ("", heading))
                heappush(queue, (more, beside(last, heading), heading))
    return costs


def counted_back(grid, one, other, steps, headings):
    """The tuple of [15] by the headings alone, from the last step back."""
    free = free_places(grid)

    @lru_cache(maxsize=None)
    def many(place, last, left, turns):
        if turns < 0 or place not in free:
            return 0
        if left == 0:
            return int(place == one and turns == 0)
        total = 0
        for heading in headings:
            ahead = (place[0] - STEPS[heading][0], place[1] - STEPS[heading][1])
            total += many(ahead, heading, left - 1, turns - (last not in ("", heading)))
        return total

    row = [many(other, "", steps, turns) for turns in range(max(steps, 1))]
    while row and row[-1] == 0:
        row.pop()
    return tuple(row)
