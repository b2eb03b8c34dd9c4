"""Texts of casts and standings."""

from eachplace.casts import is_cast
from eachplace.errors import NoText
from eachplace.standings import is_standing
from eachplace.wholes import read_whole

SORTS = ("row", "place", "number")
BETWEEN = " / "


def show_cast(cast):
    """The text of a cast."""
    words = []
    for sort, names in zip(SORTS, cast):
        words.append(sort)
        words.extend(names)
    return " ".join(words)


def show_standing(cast, standing):
    """The text of a standing of this cast."""
    parts = [shown(name, row) for name, row in zip(cast[0], standing[0])]
    parts.extend([shown(name, (place,)) for name, place in zip(cast[1], standing[1])])
    parts.extend([shown(name, (number,)) for name, number in zip(cast[2], standing[2])])
    return BETWEEN.join(parts)


def shown(name, numbers):
    """A name, and the numbers that it has behind it."""
    return " ".join([name] + [str(number) for number in numbers])


def read_cast(text):
    """The cast that is so written; anything else is refused with NoText."""
    if not isinstance(text, str):
        raise NoText("a cast is read from a text")
    cast = tuple(names_of_sorts(text.split(" ")))
    # A cast has one text alone, so what is left over or stands elsewhere shows here.
    if not is_cast(cast) or show_cast(cast) != text:
        raise NoText("this is no cast")
    return cast


def names_of_sorts(words):
    """A list of three tuples: the words behind row, place and number, each up to the next of these."""
    found = []
    for word in words:
        if word in SORTS:
            found.append([])
        elif len(found) > 0:
            found[-1].append(word)
    return [tuple(names) for names in found]


def read_standing(cast, text):
    """The standing of this cast that is so written; anything else is refused with NoText."""
    if not isinstance(text, str):
        raise NoText("a standing is read from a text")
    parts = text.split(BETWEEN)
    names = cast[0] + cast[1] + cast[2]
    if len(parts) != len(names):
        raise NoText("each name of the cast has one part")
    found = [numbers_of(part, name) for part, name in zip(parts, names)]
    rows = len(cast[0])
    behind = rows + len(cast[1])
    standing = (tuple(found[:rows]), ones_of(found[rows:behind]), ones_of(found[behind:]))
    if not is_standing(cast, standing):
        raise NoText("this is no standing of the cast")
    return standing


def numbers_of(part, name):
    """The numbers that are written behind this name."""
    words = part.split(" ")
    if words[0] != name:
        raise NoText("a name stands elsewhere in the cast, or isn't one of it")
    return tuple([read_whole(word) for word in words[1:]])


def ones_of(found):
    """The one number of each of these; NoText where one has none or more."""
    if any(len(numbers) != 1 for numbers in found):
        raise NoText("a place and a number have one number each")
    return tuple([numbers[0] for numbers in found])
