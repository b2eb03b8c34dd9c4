"""Whole numbers, and their texts, as all other files understand them."""

from eachplace.errors import NoText

MOST_FIGURES = 30


def is_whole(thing):
    """Whether this is a whole number."""
    # Python counts True and False among the ints; here they are none.
    return isinstance(thing, int) and not isinstance(thing, bool)


def read_whole(text):
    """The whole number that is so written, a text; NoText where none is."""
    figures = text.removeprefix("-")
    if not 1 <= len(figures) <= MOST_FIGURES or not all("0" <= sign <= "9" for sign in figures):
        raise NoText("a number is written in one to thirty figures")
    number = int(text)
    # Noughts ahead and -0 are read by Python, but no number is so written.
    if str(number) != text:
        raise NoText("a number is written without noughts ahead")
    return number
