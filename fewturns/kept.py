"""A grid that is kept while walls come and go."""

from fewturns.errors import NoPlace
from fewturns.grids.places import FREE, WALL, ask_free, walls_of, with_sign
from fewturns.least.tables import turns_from
from fewturns.least.ways import least_turns


class KeptGrid:
    """A grid of so many rows and columns, at first all free."""

    def __init__(self, rows, columns):
        # Rows are never changed, only replaced: what was told stays as it was.
        self.grid = (FREE * columns,) * rows

    def put_up(self, place):
        """A wall comes to the place, or NoPlace where it is not free."""
        ask_free(self.grid, place)
        self.grid = with_sign(self.grid, place, WALL)

    def take_down(self, place):
        """The wall of the place goes, or NoPlace where there is none."""
        if place not in walls_of(self.grid):
            raise NoPlace(place)
        self.grid = with_sign(self.grid, place, FREE)

    def grid_now(self):
        """The grid as it is now."""
        return self.grid

    def least_now(self, one, other):
        """The pair of `least_turns` on the grid as it is now, or None; or NoPlace."""
        return least_turns(self.grid, one, other)

    def reach_now(self, place):
        """How many places, itself among them, can be come to from the place now; or NoPlace."""
        return len(turns_from(self.grid, place))
