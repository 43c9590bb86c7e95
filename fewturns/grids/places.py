"""Places of a grid, and the steps from one to the next."""

from fewturns.errors import NoPlace

FREE = "."
WALL = "#"

# By its heading, what a step adds to (row, column); in the order of the headings as texts.
STEPS = {"e": (0, 1), "n": (-1, 0), "s": (1, 0), "w": (0, -1)}


def is_free(grid, place):
    """Whether the grid has the place and no wall is there."""
    row, column = place
    # Numbers below 0 would count from behind, so they are asked for first.
    if row < 0 or row >= len(grid):
        return False
    if column < 0 or column >= len(grid[row]):
        return False
    return grid[row][column] == FREE


def ask_free(grid, place):
    """Nothing, or NoPlace where the place is not free."""
    if not is_free(grid, place):
        raise NoPlace(place)


def places_with(grid, sign):
    """The places of the grid with the sign, in their order as pairs."""
    return [(row, column) for row, line in enumerate(grid) for column, there in enumerate(line) if there == sign]


def free_places(grid):
    """The free places of the grid, in their order as pairs."""
    return places_with(grid, FREE)


def walls_of(grid):
    """The walls of the grid, in their order as pairs."""
    return places_with(grid, WALL)


def with_sign(grid, place, sign):
    """The grid with the sign at the place, which it has."""
    row, column = place
    line = grid[row]
    changed = line[:column] + sign + line[column + 1:]
    return grid[:row] + (changed,) + grid[row + 1:]


def place_beside(place, heading):
    """The place one step on by the heading, in the grid or not."""
    down, right = STEPS[heading]
    return place[0] + down, place[1] + right


def heading_between(one, other):
    """The heading of the step from one place to the other, or None where it is no step."""
    for heading in STEPS:
        if place_beside(one, heading) == other:
            return heading
    return None


def sights_from(grid, place):
    """A dict from the free places that lie straight on from the place to the headings that go there."""
    told = {}
    for heading in STEPS:
        headings = heading
        beside = place_beside(place, heading)
        while is_free(grid, beside):
            told[beside] = headings
            headings = headings + heading
            beside = place_beside(beside, heading)
    return told


def sights_of(grid):
    """A dict from each free place, in order, to what lies straight on from it."""
    return {place: sights_from(grid, place) for place in free_places(grid)}
