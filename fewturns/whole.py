"""The desk: lines asked of a kept grid, and the rows that answer them."""

from fewturns.counts.ways import count_stairs
from fewturns.errors import NoAsk
from fewturns.grids.places import walls_of
from fewturns.grids.runs import runs_of, way_by
from fewturns.grids.texts import read_grid
from fewturns.kept import KeptGrid
from fewturns.least.prices import least_cost, lengths_by_turns
from fewturns.least.tables import widest
from fewturns.least.ways import first_way

MOST_FIGURES = 6
NO_WAY_TOLD = "none"


def is_number(word):
    """Whether the word is a number in figures, not too many, without a nought ahead."""
    # Other figures than the ten of the document are digits to Python, too.
    if not word.isascii() or not word.isdigit() or len(word) > MOST_FIGURES:
        return False
    return word == "0" or word[0] != "0"


def read_numbers(words):
    """The numbers that the words write, or NoAsk where one writes none."""
    for word in words:
        if not is_number(word):
            raise NoAsk(f"this is no number of the desk: {word}")
    return [int(word) for word in words]


def row_of(numbers):
    """The row that tells the numbers."""
    return " ".join([str(number) for number in numbers])


def ends_of(numbers):
    """The two places that four numbers tell."""
    return (numbers[0], numbers[1]), (numbers[2], numbers[3])


def grid_by(text):
    """The grid whose rows the text parts by `/`, or NoGrid."""
    # A line end parts no rows here: it becomes a sign that is as wrong.
    return read_grid(text.replace("\n", " ").replace("/", "\n"))


def kept_as(grid):
    """A kept grid with the walls of the grid."""
    kept = KeptGrid(len(grid), len(grid[0]))
    for place in walls_of(grid):
        kept.put_up(place)
    return kept


def place_gone_to(grid, text):
    """A row of where one comes to by the text `A B RUNS`, or NoAsk, NoRuns, NoWay."""
    words = text.split(" ", 2)
    if len(words) < 3:
        raise NoAsk("there are no runs to go by")
    place = tuple(read_numbers(words[:2]))
    way = way_by(grid, place, words[2])
    return [row_of(way[-1])]


def put_up_by(kept, numbers):
    """No row: a wall is put up."""
    kept.put_up(tuple(numbers))
    return []


def take_down_by(kept, numbers):
    """No row: a wall is taken down."""
    kept.take_down(tuple(numbers))
    return []


def rows_shown(kept, _):
    """The rows of the grid."""
    return list(kept.grid_now())


def least_told(kept, numbers):
    """A row of the least turns and the length with them."""
    one, other = ends_of(numbers)
    pair = kept.least_now(one, other)
    return [NO_WAY_TOLD] if pair is None else [row_of(pair)]


def way_told(kept, numbers):
    """A row of the runs of the first way."""
    one, other = ends_of(numbers)
    grid = kept.grid_now()
    way = first_way(grid, one, other)
    return [NO_WAY_TOLD] if way is None else [runs_of(grid, way)]


def pairs_told(kept, numbers):
    """A row for each pair of turns and length."""
    one, other = ends_of(numbers)
    return [row_of(pair) for pair in lengths_by_turns(kept.grid_now(), one, other)]


def cost_told(kept, numbers):
    """A row of the least cost, the price of a turn told ahead of the places."""
    one, other = ends_of(numbers[1:])
    cost = least_cost(kept.grid_now(), one, other, numbers[0])
    return [NO_WAY_TOLD] if cost is None else [str(cost)]


def stairs_told(kept, numbers):
    """A row of how many stairs there are, by their turns, or no row."""
    one, other = ends_of(numbers)
    counts = count_stairs(kept.grid_now(), one, other)
    return [row_of(counts)] if counts else []


def reach_told(kept, numbers):
    """A row of how many places can be come to."""
    return [str(kept.reach_now(tuple(numbers)))]


def widest_told(kept, _):
    """A row of the greatest least turns and their two places, or no row."""
    triple = widest(kept.grid_now())
    if triple is None:
        return []
    turns, one, other = triple
    return [row_of((turns, *one, *other))]


# By its first word, how many numbers a line has behind it.
NUMBERS = {
    "wall": 2,
    "free": 2,
    "show": 0,
    "least": 4,
    "way": 4,
    "by": 4,
    "price": 5,
    "stairs": 4,
    "reach": 2,
    "widest": 0,
}

# By its first word, what answers a line.
ANSWERS = {
    "wall": put_up_by,
    "free": take_down_by,
    "show": rows_shown,
    "least": least_told,
    "way": way_told,
    "by": pairs_told,
    "price": cost_told,
    "stairs": stairs_told,
    "reach": reach_told,
    "widest": widest_told,
}


def answered(kept, line):
    """The rows that answer a line of a word and numbers, or NoAsk, or as the parts refuse."""
    words = line.split(" ")
    if words[0] not in ANSWERS or len(words) - 1 != NUMBERS[words[0]]:
        raise NoAsk(f"the desk knows no such line: {line}")
    answer = ANSWERS[words[0]]
    return answer(kept, read_numbers(words[1:]))


class Desk:
    """A grid, at first one free place, that lines change and ask."""

    def __init__(self):
        self.kept = KeptGrid(1, 1)

    def ask(self, line):
        """The rows that answer the line, none where it tells nothing; or a refusal, which changes nothing."""
        word, blank, text = line.partition(" ")
        if word == "grid" and blank:
            # The old grid stays until the text is known to be one.
            self.kept = kept_as(grid_by(text))
            return []
        if word == "go":
            return place_gone_to(self.kept.grid_now(), text)
        return answered(self.kept, line)
