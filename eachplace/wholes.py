"""Whole numbers, as all other files understand them."""


def is_whole(thing):
    """Whether this is a whole number."""
    # Python counts True and False among the ints; here they are none.
    return isinstance(thing, int) and not isinstance(thing, bool)
