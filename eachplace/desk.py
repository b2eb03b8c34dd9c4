"""A desk: rows are said to it, and it answers each."""

from eachplace.casts import is_of_sort, sorts_of
from eachplace.deciding import decided
from eachplace.errors import NoRow, NoText
from eachplace.holding import holds
from eachplace.least import least_break
from eachplace.sayings import atoms_in, needed
from eachplace.sayingtexts import read_saying, read_sum
from eachplace.standings import length_of, size_of
from eachplace.standingtexts import read_cast, read_standing, show_standing
from eachplace.turnings import turned
from eachplace.wholes import read_whole

# The sorts of the parts behind each turning's word.
TURNING_PARTS = {
    "changed": ("row", "place", "sum"),
    "exchanged": ("row", "place", "place"),
    "turned": (),
    "moved": ("whole",),
    "front": ("place",),
    "back": ("place",),
}


class Desk:
    """A cast, by which rows are read."""

    def __init__(self, cast):
        self.cast = cast

    def say(self, row):
        """The answer to a row, a text; anything else is refused with NoRow."""
        if not isinstance(row, str):
            raise NoRow("a row is a text")
        word, blank, text = row.partition(" ")
        try:
            return self.answer(word, text)
        except NoText:
            raise NoRow("the row isn't so written, or not of this cast") from None

    def answer(self, word, text):
        """The answer to a row of this word; NoText where what stands behind it isn't so written."""
        cast = self.cast
        if word == "cast":
            self.cast = read_cast(text)
            return "ok"
        if word == "at":
            standing, saying = parted(text)
            return said_at(cast, read_standing(cast, standing), read_saying(cast, saying))
        if word == "all":
            return said_of_all(cast, read_saying(cast, text))
        if word == "least":
            return said_of_least(cast, read_saying(cast, text))
        if word == "needs":
            saying = read_saying(cast, text)
            return f"{needed(cast, saying)} {atoms_in(saying)}"
        if word == "over":
            turning, standing = parted(text)
            told = turned(cast, read_standing(cast, standing), read_turning(cast, turning))
            return show_standing(cast, told)
        raise NoText("no row begins so")


def parted(text):
    """The texts ahead of the colon and behind it."""
    one, colon, other = text.partition(" : ")
    if colon == "":
        raise NoText("a colon is missing")
    return one, other


def said_at(cast, standing, saying):
    """Whether the saying holds in the standing."""
    return "yes" if holds(cast, standing, saying) else "no"


def said_of_all(cast, saying):
    """Whether the saying holds in every standing, or one in which it doesn't."""
    word, told = decided(cast, saying)
    return "holds" if word == "holds" else f"broken {show_standing(cast, told)}"


def said_of_least(cast, saying):
    """Whether the saying holds, or how many places and which size its least break has."""
    told = least_break(cast, saying)
    if told is None:
        return "holds"
    return f"{length_of(told[0])} {size_of(told[0])}"


def read_turning(cast, text):
    """The turning of this cast that is so written; anything else is refused with NoText."""
    words = text.split(" ")
    kinds = TURNING_PARTS.get(words[0])
    if kinds is None or len(words) != len(kinds) + 1:
        raise NoText("no turning is so written")
    parts = [read_part(cast, kind, word) for kind, word in zip(kinds, words[1:])]
    return (words[0],) + tuple(parts)


def read_part(cast, kind, word):
    """A part of a turning: a sum, a whole number, or a name of this sort."""
    if kind == "sum":
        return read_sum(cast, word)
    if kind == "whole":
        return read_whole(word)
    if not is_of_sort(sorts_of(cast), kind, word):
        raise NoText("another name is due here")
    return word
