"""Places of a grid, and the steps from one to the next."""

FREE = "."
WALL = "#"

# By (rows more, columns more) of a step, in the order of the headings as texts.
HEADINGS = {(0, 1): "e", (-1, 0): "n", (1, 0): "s", (0, -1): "w"}


def is_free(grid, place):
    """Whether the grid has the place and no wall is there."""
    row, column = place
    # Numbers below 0 would count from behind, so they are asked for first.
    if row < 0 or row >= len(grid):
        return False
    if column < 0 or column >= len(grid[row]):
        return False
    return grid[row][column] == FREE


def heading_between(one, other):
    """The heading of the step from one place to the other, or None where it is no step."""
    return HEADINGS.get((other[0] - one[0], other[1] - one[1]))
