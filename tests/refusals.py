"""NoPlace as promise 8 tells it, for all that is asked of a grid and two places."""

from itertools import product

from fewturns.errors import NoPlace, TurnError
from tests.grounds import FAR, HALL, PARTS, ROOM, free_places, not_free_of


class PlacesRefused:
    """Ahead of TestCase: `ASKS` are functions of a grid and two places."""

    ASKS = ()

    def refused(self, ask, grid, one, other, place):
        with self.assertRaises(NoPlace) as caught:
            ask(grid, one, other)
        self.assertEqual(caught.exception.place, place)
        self.assertIsInstance(caught.exception, TurnError)

    def test_places_that_are_not_free(self):
        for ask, grid in product(self.ASKS, (HALL, ROOM, PARTS, ("#",), (".",))):
            for wrong in not_free_of(grid):
                for good in sorted(free_places(grid))[:1]:
                    self.refused(ask, grid, wrong, good, wrong)
                    self.refused(ask, grid, good, wrong, wrong)
                self.refused(ask, grid, wrong, wrong, wrong)

    def test_one_goes_ahead_of_other(self):
        for ask in self.ASKS:
            for one, other in product(not_free_of(HALL), repeat=2):
                self.refused(ask, HALL, one, other, one)
            self.refused(ask, PARTS, (FAR, 0), (-FAR, 0), (FAR, 0))
