"""The wall whose opening saves turns, and the free places that matter."""

from fewturns.grids.places import FREE, WALL, ask_free, free_places, walls_of, with_sign
from fewturns.least.tables import turns_from


def turns_between(grid, one, other):
    """The least turns between two free places, or None where there is no way."""
    return turns_from(grid, one).get(other)


def are_fewer(turns, than):
    """Whether these are fewer turns; of no way (None) there are more than of any way."""
    return turns is not None and (than is None or turns < than)


def best_opening(grid, one, other):
    """The pair (wall, turns) of the first wall whose opening makes the turns least, or None; or NoPlace."""
    ask_free(grid, one)
    ask_free(grid, other)
    told = None
    least = turns_between(grid, one, other)
    for place in walls_of(grid):
        turns = turns_between(with_sign(grid, place, FREE), one, other)
        if are_fewer(turns, least):
            told = (place, turns)
            least = turns
    return told


def places_that_matter(grid, one, other):
    """The free places without which there is no way, or the least turns are more; or NoPlace."""
    ask_free(grid, one)
    ask_free(grid, other)
    least = turns_between(grid, one, other)
    told = []
    for place in free_places(grid):
        if place != one and place != other:
            without = turns_between(with_sign(grid, place, WALL), one, other)
            # Where there is no way already, nothing is fewer than that.
            if are_fewer(least, without):
                told.append(place)
    return tuple(told)
