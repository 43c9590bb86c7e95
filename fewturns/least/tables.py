"""Tables of the least turns from a place, and the greatest of them on a grid."""

from fewturns.grids.places import ask_free, is_free, sights_of
from fewturns.least.ways import layers_of


def turns_by_sights(sights, place):
    """A dict from each place that can be come to, in order, to the least turns there."""
    turns = {}
    for runs, layer in enumerate(layers_of(sights, place)):
        for at in layer:
            # The place itself is come to by no run, but not by less than no turn.
            turns[at] = max(0, runs - 1)
    return {at: turns[at] for at in sorted(turns)}


def turns_from(grid, place):
    """A dict from each free place that can be come to, in order, to the least turns there; or NoPlace."""
    ask_free(grid, place)
    return turns_by_sights(sights_of(grid), place)


def table_shown(grid, place, table):
    """Whether the table is the one of `turns_from`, in any order."""
    return is_free(grid, place) and table == turns_from(grid, place)


def widest(grid):
    """The triple (turns, one, other) of the greatest least turns, the first such places; or None."""
    sights = sights_of(grid)
    told = None
    for one in sights:
        for other, turns in turns_by_sights(sights, one).items():
            if told is None or turns > told[0]:
                told = (turns, one, other)
    return told
