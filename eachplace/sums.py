"""Sums: a whole number, and what a number or a row at a place has."""

from eachplace.casts import is_cast, is_of_sort, sorts_of
from eachplace.standings import named_places
from eachplace.views import View
from eachplace.wholes import is_whole


def is_sum(cast, thing):
    """Whether anything is a sum of this cast; of what is no cast nothing is one."""
    return is_cast(cast) and is_sum_in(sorts_of(cast), thing)


def is_sum_in(sorts, thing):
    """Whether anything is a sum in names of these sorts."""
    return (
        isinstance(thing, tuple)
        and len(thing) == 2
        and is_base_in(sorts, thing[0])
        and is_whole(thing[1])
    )


def is_base_in(sorts, thing):
    """Whether anything may be the base of a sum in names of these sorts."""
    if isinstance(thing, tuple):
        return (
            len(thing) == 2
            and is_of_sort(sorts, "row", thing[0])
            and is_of_sort(sorts, "place", thing[1])
        )
    return thing is None or is_of_sort(sorts, "number", thing)


def worth(cast, standing, one):
    """What the sum is worth in this standing."""
    return worth_at(View(cast, standing), named_places(cast, standing), one)


def worth_at(view, places, one):
    """What the sum is worth in a view where the names of places stand so."""
    base, more = one
    if base is None:
        return more
    if isinstance(base, tuple):
        row, place = base
        return view.rows[row][places[place]] + more
    return view.numbers[base] + more
