"""Ways on a grid, their turns and their lengths."""

from fewturns.errors import NoWay
from fewturns.grids.places import heading_between, is_free


def headings_of(way):
    """The heading of each step in order; None where two places are no step apart."""
    return [heading_between(one, other) for one, other in zip(way, way[1:])]


def is_way(grid, way):
    """Whether the tuple of pairs of whole numbers is a way on the grid."""
    if len(way) == 0:
        return False
    if not all([is_free(grid, place) for place in way]):
        return False
    return None not in headings_of(way)


def ask_way(grid, way):
    """Nothing, or NoWay where it is no way."""
    if not is_way(grid, way):
        raise NoWay("this is no way on the grid")


def turns_of(grid, way):
    """The pair (turns, length) of the way, or NoWay where it is none."""
    ask_way(grid, way)
    headings = headings_of(way)
    turns = 0
    for ahead, behind in zip(headings, headings[1:]):
        if ahead != behind:
            turns += 1
    return turns, len(headings)
