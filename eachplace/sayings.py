"""Sayings: their forms, and what is counted in them."""

from eachplace.casts import is_cast, is_of_sort, sorts_of
from eachplace.names import is_name
from eachplace.sums import is_sum_in

BETWEEN_SUMS = ("most", "less", "same", "unlike")
BETWEEN_PLACES = ("ahead", "here", "next")
JOINING = ("and", "or")
IN_ORDER = ("most", "less", "same", "least", "more")

# How many places the denial of a word brings.
BROUGHT = {"each": 1, "pairs": 2, "nexts": 2, "next": 1}


def is_saying(cast, thing):
    """Whether anything is a saying of this cast; of what is no cast nothing is one."""
    return is_cast(cast) and is_saying_in(sorts_of(cast), False, thing)


def is_saying_in(sorts, within, thing):
    """Whether anything is a saying in names of these sorts, within an each or pairs or not."""
    if not isinstance(thing, tuple) or len(thing) == 0:
        return False
    word = thing[0]
    if word in BETWEEN_SUMS:
        return len(thing) == 3 and is_sum_in(sorts, thing[1]) and is_sum_in(sorts, thing[2])
    if word == "ahead" or word == "here":
        return are_two_places(sorts, thing[1:])
    if word == "not":
        return len(thing) == 2 and is_saying_in(sorts, within, thing[1])
    if word in JOINING:
        return len(thing) == 2 and isinstance(thing[1], tuple) and are_sayings_in(sorts, within, thing[1])
    if word == "if":
        return len(thing) == 3 and are_sayings_in(sorts, within, thing[1:])
    return not within and is_outer_saying_in(sorts, thing)


def is_outer_saying_in(sorts, thing):
    """Whether a tuple that isn't empty is a saying of one of the words that stand within no each or pairs."""
    word = thing[0]
    if word == "next":
        return are_two_places(sorts, thing[1:])
    if word == "nexts":
        return len(thing) == 3 and is_of_sort(sorts, "row", thing[1]) and thing[2] in IN_ORDER
    if word == "each":
        return len(thing) == 3 and is_saying_of_new(sorts, thing[1:2], thing[2])
    if word == "pairs":
        return len(thing) == 4 and is_saying_of_new(sorts, thing[1:3], thing[3])
    return False


def are_two_places(sorts, things):
    """Whether a tuple of anything is two names that may stand for places."""
    return len(things) == 2 and all(is_of_sort(sorts, "place", thing) for thing in things)


def are_sayings_in(sorts, within, things):
    """Whether a tuple of anything is one of sayings."""
    return all(is_saying_in(sorts, within, thing) for thing in things)


def is_saying_of_new(sorts, names, thing):
    """Whether these are unlike new names, and anything is a saying that may use them as places."""
    inner = dict(sorts)
    for name in names:
        if not is_name(name) or name in inner:
            return False
        inner[name] = "place"
    return is_saying_in(inner, True, thing)


def parts_of(saying):
    """The sayings that stand directly in this one."""
    word = saying[0]
    if word in JOINING:
        return saying[1]
    if word == "if":
        return saying[1:]
    if word == "not" or word == "each" or word == "pairs":
        return saying[-1:]
    return ()


def is_atom(saying):
    """Whether the saying is an atom."""
    return saying[0] in BETWEEN_SUMS or saying[0] in BETWEEN_PLACES or saying[0] == "nexts"


def atoms_in(saying):
    """How many atoms stand in the saying."""
    if is_atom(saying):
        return 1
    return sum(atoms_in(part) for part in parts_of(saying))


def needed(cast, saying):
    """How many places are needed: the cast's, and those that the denial of the saying brings."""
    return len(cast[1]) + brought(saying, False)


def brought(saying, truth):
    """How many places the saying brings that is to be so, or not to be so."""
    word = saying[0]
    if word == "not":
        return brought(saying[1], not truth)
    if word == "if":
        return brought(saying[1], not truth) + brought(saying[2], truth)
    if word in JOINING:
        return sum(brought(part, truth) for part in saying[1])
    return 0 if truth else BROUGHT.get(word, 0)
