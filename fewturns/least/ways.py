"""The least turns between two places, and the first of the shortest ways with them."""

from fewturns.grids.places import ask_free, place_beside, sights_of
from fewturns.grids.ways import turns_of


def layers_of(sights, place):
    """Lists of the places that can be come to: by no run, by 1 run, by 2 runs and no fewer, ..

    A way of some runs has one turn less, so fewest runs are least turns.
    """
    met = {place: True}
    layers = []
    front = [place]
    while front:
        layers.append(front)
        behind = []
        for at in front:
            for seen in sights[at]:
                if seen not in met:
                    met[seen] = True
                    behind.append(seen)
        front = behind
    return layers


def first_on(sights, told):
    """Of the shortest headings by one run to a place of `told`, and on as told there, the first."""
    found = [headings + told[seen] for seen, headings in sights.items() if seen in told]
    return min(found, key=lambda headings: (len(headings), headings))


def first_headings(grid, one, other):
    """The headings, in order, of the first way as [9] says, or None where there is no way.

    Worked out from the other end: what is first from a place on is one run,
    and then what is first from where that run ends.
    """
    sights = sights_of(grid)
    told = {other: ""}
    for layer in layers_of(sights, other)[1:]:
        if one in told:
            break
        told = {place: first_on(sights[place], told) for place in layer}
    return told.get(one)


def first_way(grid, one, other):
    """Of the shortest ways with the least turns the first by its headings, or None; or NoPlace."""
    ask_free(grid, one)
    ask_free(grid, other)
    headings = first_headings(grid, one, other)
    if headings is None:
        return None
    way = [one]
    for heading in headings:
        way.append(place_beside(way[-1], heading))
    return tuple(way)


def least_turns(grid, one, other):
    """The pair (least turns, least length of the ways with so few), or None; or NoPlace."""
    way = first_way(grid, one, other)
    if way is None:
        return None
    return turns_of(grid, way)
