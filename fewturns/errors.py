"""The refusals of the program."""


class TurnError(ValueError):
    """Any refusal."""


class NoWay(TurnError):
    """What was handed in is no way; made of a text."""


class NoAsk(TurnError):
    """A line that asks nothing the desk knows; made of a text."""


class NoGrid(TurnError):
    """A text that is no grid; keeps the first row, counted from 0, that is wrong."""

    def __init__(self, row):
        super().__init__(f"row {row} is no row of a grid")
        self.row = row


class NoRuns(TurnError):
    """A text that is no runs; keeps the place of the first word, counted from 0, that is wrong."""

    def __init__(self, place):
        super().__init__(f"word {place} is no run")
        self.place = place


class NoPlace(TurnError):
    """A place that does not serve as asked; keeps the place."""

    def __init__(self, place):
        super().__init__(f"{place} does not serve as a place")
        self.place = place
