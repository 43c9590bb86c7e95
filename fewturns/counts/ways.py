"""Ways between two places counted by their turns."""

from fewturns.grids.places import STEPS, ask_free, is_free, place_beside

# The heading ahead of the first step, which makes no turn.
AT_FIRST = ""


def turned_on(row, ahead, heading):
    """The counts by turns of ways that go a step on by the heading."""
    if ahead == AT_FIRST or ahead == heading:
        return row
    return [0] + row[:-1]


def step_on(grid, counts, headings):
    """The counts, by turns, of the ways that are one step longer, by (place, last heading)."""
    told = {}
    for (place, ahead), row in counts.items():
        for heading in headings:
            beside = place_beside(place, heading)
            if is_free(grid, beside):
                more = turned_on(row, ahead, heading)
                old = told.get((beside, heading), [0] * len(more))
                told[(beside, heading)] = [a + b for a, b in zip(old, more)]
    return told


def without_last_noughts(row):
    """The counts up to the last one that is not 0."""
    told = list(row)
    while told and told[-1] == 0:
        told.pop()
    return told


def counted(grid, ends, steps, headings):
    """How many ways of just so many steps, by these headings, go between the ends, by their turns."""
    one, other = ends
    # Fewer turns than steps are made, so each row is long enough, and all are as long.
    counts = {(one, AT_FIRST): [1] + [0] * steps}
    for _ in range(steps):
        counts = step_on(grid, counts, headings)
    rows = [row for (place, _), row in counts.items() if place == other]
    return tuple(without_last_noughts([sum(column) for column in zip(*rows)]))


def count_ways(grid, one, other, steps):
    """How many ways of just so many steps go from one place to the other, by their turns; or NoPlace."""
    ask_free(grid, one)
    ask_free(grid, other)
    return counted(grid, (one, other), steps, list(STEPS))


def count_stairs(grid, one, other):
    """How many ways by e and s alone go from one place to the other, by their turns; or NoPlace."""
    ask_free(grid, one)
    ask_free(grid, other)
    # All stairs between two places are as long; of less than no steps there are none.
    steps = other[0] - one[0] + other[1] - one[1]
    return counted(grid, (one, other), steps, ["e", "s"])
