"""Ways written by their runs, and read from them."""

from fewturns.errors import NoRuns, NoWay
from fewturns.grids.places import STEPS, is_free, place_beside
from fewturns.grids.ways import ask_way, headings_of


def runs_of(grid, way):
    """The text of the way's runs, or NoWay where it is no way."""
    ask_way(grid, way)
    runs = []
    for heading in headings_of(way):
        if runs and runs[-1][0] == heading:
            runs[-1][1] += 1
        else:
            runs.append([heading, 1])
    return " ".join([f"{heading}{steps}" for heading, steps in runs])


def is_run(word):
    """Whether the word is a heading with a number from 1 on, without a nought ahead."""
    figures = word[1:]
    # Other figures than the ten of the document are digits to Python, too.
    if not figures.isascii() or not figures.isdigit():
        return False
    return word[0] in STEPS and figures[0] != "0"


def read_runs(text):
    """The pairs (heading, steps) that the text writes, or NoRuns with the first word that is wrong."""
    # A text without signs has no words, but its split has an empty one.
    words = text.split(" ") if text else []
    runs = []
    for at, word in enumerate(words):
        if not is_run(word) or (runs and runs[-1][0] == word[0]):
            raise NoRuns(at)
        runs.append((word[0], int(word[1:])))
    return runs


def next_place(grid, place, heading):
    """The place one step on by the heading, or NoWay where it is not free."""
    beside = place_beside(place, heading)
    if not is_free(grid, beside):
        raise NoWay(f"heading {heading} from {place} goes to no free place")
    return beside


def way_by(grid, place, text):
    """The way from the place by the runs of the text, or NoRuns, then NoWay."""
    runs = read_runs(text)
    if not is_free(grid, place):
        raise NoWay(f"no way goes from {place}, which is not free")
    way = [place]
    for heading, steps in runs:
        for _ in range(steps):
            way.append(next_place(grid, way[-1], heading))
    return tuple(way)
