"""Casts: which rows, places and numbers have names."""

from eachplace.names import is_name


def is_cast(thing):
    """Whether anything is a cast."""
    return (
        isinstance(thing, tuple)
        and len(thing) == 3
        and all(are_rising_names(part) for part in thing)
        and len(thing[0]) >= 1
        and are_unlike(thing[0] + thing[1] + thing[2])
    )


def are_rising_names(thing):
    """Whether anything is a tuple of names, each behind the one before it by the alphabet."""
    return (
        isinstance(thing, tuple)
        and all(is_name(name) for name in thing)
        and all(one < other for one, other in zip(thing, thing[1:]))
    )


def are_unlike(names):
    """Whether no name stands twice among these."""
    return len(set(names)) == len(names)


def sorts_of(cast):
    """A dict of what each name may stand for: "row", "place" or "number"; the end may for a place."""
    sorts = {"end": "place"}
    for sort, names in zip(("row", "place", "number"), cast):
        for name in names:
            sorts[name] = sort
    return sorts


def is_of_sort(sorts, sort, thing):
    """Whether anything is a name that may stand for a thing of this sort."""
    return isinstance(thing, str) and sorts.get(thing) == sort
