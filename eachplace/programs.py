"""Programs: a cast, what is said first, deeds, and what is due last."""

from eachplace.casts import is_cast, is_of_sort, sorts_of
from eachplace.sayings import is_saying_in
from eachplace.sums import is_sum_in

# The sorts of the parts behind each plain deed's word; a spot is a place or the end.
PARTS = {
    "put": ("row", "spot", "sum"),
    "swap": ("row", "spot", "spot"),
    "set": ("number", "sum"),
    "stand": ("place", "spot"),
    "begin": ("place",),
    "go": ("place",),
}


def is_program(thing):
    """Whether anything is a program."""
    if not isinstance(thing, tuple) or len(thing) != 4 or not is_cast(thing[0]):
        return False
    sorts = sorts_of(thing[0])
    return (
        is_saying_in(sorts, False, thing[1])
        and is_block_in(sorts, thing[2])
        and is_saying_in(sorts, False, thing[3])
    )


def is_block_in(sorts, thing):
    """Whether anything is a block of deeds in names of these sorts."""
    return isinstance(thing, tuple) and all(is_deed_in(sorts, deed) for deed in thing)


def is_deed_in(sorts, thing):
    """Whether anything is a deed in names of these sorts."""
    if not isinstance(thing, tuple) or len(thing) == 0 or not isinstance(thing[0], str):
        return False
    word = thing[0]
    if word == "if":
        return len(thing) == 4 and is_asked_in(sorts, thing[1]) and all(is_block_in(sorts, part) for part in thing[2:])
    if word == "while":
        return (
            len(thing) == 4
            and is_asked_in(sorts, thing[1])
            and is_saying_in(sorts, False, thing[2])
            and is_block_in(sorts, thing[3])
        )
    return word in PARTS and are_parts_in(sorts, PARTS[word], thing[1:])


def is_asked_in(sorts, thing):
    """Whether anything may be asked by an if or a while."""
    # What may stand within an each or pairs is just what has no each, pairs, nexts or next.
    return is_saying_in(sorts, True, thing)


def are_parts_in(sorts, kinds, things):
    """Whether a tuple of anything is one of parts of these kinds, in order."""
    return len(things) == len(kinds) and all(is_part_in(sorts, kind, thing) for kind, thing in zip(kinds, things))


def is_part_in(sorts, kind, thing):
    """Whether anything is a part of this kind, in names of these sorts."""
    if kind == "sum":
        return is_sum_in(sorts, thing)
    if kind == "spot":
        return is_of_sort(sorts, "place", thing)
    # The end may be looked at, but never goes elsewhere.
    return thing != "end" and is_of_sort(sorts, kind, thing)


def heads_of(program):
    """A tuple of the whiles, as they stand in the program, in the order of their beginnings."""
    return tuple(whiles_in(program[2]))


def whiles_in(block):
    """A list of the whiles in a block, each ahead of those within it."""
    found = []
    for deed in block:
        if deed[0] == "while":
            found.append(deed)
        for part in blocks_of(deed):
            found.extend(whiles_in(part))
    return found


def blocks_of(deed):
    """The blocks that stand in a deed."""
    if deed[0] == "if":
        return deed[2:]
    if deed[0] == "while":
        return deed[3:]
    return ()
