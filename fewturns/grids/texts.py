"""Grids read from texts and written as texts."""

from fewturns.errors import NoGrid
from fewturns.grids.places import FREE, WALL


def is_row(row, length):
    """Whether the row has signs of a grid alone, at least one, and just so many."""
    if len(row) == 0 or len(row) != length:
        return False
    return all([sign == FREE or sign == WALL for sign in row])


def read_grid(text):
    """The grid that the text writes, or NoGrid with the first row that is wrong."""
    # Not splitlines: it knows more line ends than one, and drops the last.
    rows = text.split("\n")
    for at, row in enumerate(rows):
        if not is_row(row, len(rows[0])):
            raise NoGrid(at)
    return tuple(rows)


def grid_shown(grid):
    """The text that writes the grid."""
    return "\n".join(grid)
