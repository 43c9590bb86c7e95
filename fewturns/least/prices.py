"""Length held against turns, and the least cost of both."""

from fewturns.grids.places import ask_free, sights_of


def one_run_on(sights, lengths, front):
    """The lengths, less than those in `lengths`, that one run more from the places of the front makes."""
    less = {}
    for at, length in front.items():
        for seen, headings in sights[at].items():
            longer = length + len(headings)
            if longer < less.get(seen, lengths.get(seen, longer + 1)):
                less[seen] = longer
    return less


def lengths_by_turns(grid, one, other):
    """The pairs (turns, least length with at most so many), lengths falling; or NoPlace.

    Where runs are added one at a time, two side by side may have one heading;
    such a way has fewer turns still, so at most so many holds of it, too.
    """
    ask_free(grid, one)
    ask_free(grid, other)
    sights = sights_of(grid)
    lengths = {}
    front = {one: 0}
    runs = 0
    told = []
    while front:
        if other in front:
            # The place itself is come to by no run, but not by less than no turn.
            told.append((max(0, runs - 1), front[other]))
        for at in front:
            lengths[at] = front[at]
        # Only places with a new length can make another one less.
        front = one_run_on(sights, lengths, front)
        runs += 1
    return tuple(told)


def least_cost(grid, one, other, price):
    """The least cost of a way where a step costs 1 and a turn the price, or None; or NoPlace."""
    pairs = lengths_by_turns(grid, one, other)
    return min([length + price * turns for turns, length in pairs], default=None)
