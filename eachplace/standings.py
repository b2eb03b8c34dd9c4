"""Standings: what the rows, places and numbers of a cast have."""

from eachplace.casts import is_cast
from eachplace.wholes import is_whole


def is_standing(cast, thing):
    """Whether anything is a standing of this cast; of what is no cast nothing is one."""
    return (
        is_cast(cast)
        and isinstance(thing, tuple)
        and len(thing) == 3
        and are_rows(thing[0], len(cast[0]))
        and are_places(thing[1], len(cast[1]), length_of(thing))
        and are_wholes(thing[2], len(cast[2]))
    )


def are_rows(thing, many):
    """Whether anything is a tuple of so many rows of whole numbers, all as long."""
    return (
        isinstance(thing, tuple)
        and len(thing) == many
        and all(isinstance(row, tuple) for row in thing)
        and all(are_wholes(row, len(thing[0])) for row in thing)
    )


def are_places(thing, many, length):
    """Whether anything is a tuple of so many places of rows of this length, the end too."""
    return are_wholes(thing, many) and all(0 <= place <= length for place in thing)


def are_wholes(thing, many):
    """Whether anything is a tuple of so many whole numbers."""
    return isinstance(thing, tuple) and len(thing) == many and all(is_whole(part) for part in thing)


def length_of(standing):
    """How many places the standing has."""
    # A cast has one row at least, and all rows are as long.
    return len(standing[0][0])


def size_of(standing):
    """The greatest number of its rows and numbers, without signs; places don't count."""
    rows, places, numbers = standing
    sizes = [abs(number) for row in rows for number in row]
    sizes.extend([abs(number) for number in numbers])
    return max(sizes, default=0)


def named_places(cast, standing):
    """A dict of where each named place stands, the end too."""
    places = {"end": length_of(standing)}
    for name, place in zip(cast[1], standing[1]):
        places[name] = place
    return places


def place_of(cast, standing, name):
    """Where this named place stands; the end stands at the length."""
    return named_places(cast, standing)[name]


def number_at(cast, standing, row, place):
    """What the row of this name has at a place; at the end each row has 0."""
    numbers = standing[0][cast[0].index(row)]
    if place == len(numbers):
        return 0
    return numbers[place]
