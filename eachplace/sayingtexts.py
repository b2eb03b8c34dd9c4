"""Texts of sums and sayings."""

from eachplace.errors import NoText
from eachplace.sayings import BETWEEN_PLACES, BETWEEN_SUMS, JOINING, is_saying
from eachplace.sums import is_sum
from eachplace.wholes import read_whole

# Nothing is promised of texts of more than thirty deep; a bound keeps reading from running out of calls.
DEEPEST = 60

# How many words stand ahead of the one saying within, the word itself too.
WORDS_AHEAD = {"not": 1, "each": 2, "pairs": 3}


def show_sum(one):
    """The text of a sum."""
    base, more = one
    if base is None:
        return str(more)
    name = ".".join(base) if isinstance(base, tuple) else base
    if more == 0:
        return name
    return f"{name}{more:+d}"


def show_saying(saying):
    """The text of a saying."""
    return " ".join(words_of(saying))


def words_of(saying):
    """The list of words by which a saying is written."""
    word = saying[0]
    if word in BETWEEN_SUMS:
        return [word, show_sum(saying[1]), show_sum(saying[2])]
    if word in BETWEEN_PLACES or word == "nexts":
        return list(saying)
    if word in JOINING:
        words = [word, "("]
        for part in saying[1]:
            words.extend(words_of(part))
        return words + [")"]
    if word == "if":
        return [word] + words_of(saying[1]) + words_of(saying[2])
    # not, each and pairs have one saying, as their last part, and names ahead of it.
    return list(saying[:-1]) + words_of(saying[-1])


def read_sum(cast, text):
    """The sum of this cast that is so written; anything else is refused with NoText."""
    if not isinstance(text, str):
        raise NoText("a sum is read from a text")
    one = written_sum(text)
    if not is_sum(cast, one):
        raise NoText("this is no sum of the cast")
    return one


def read_saying(cast, text):
    """The saying of this cast that is so written; anything else is refused with NoText."""
    if not isinstance(text, str):
        raise NoText("a saying is read from a text")
    words = text.split(" ")
    saying, behind = saying_from(words, 0, 1)
    if behind != len(words):
        raise NoText("words are left over behind the saying")
    if not is_saying(cast, saying):
        raise NoText("this is no saying of the cast")
    return saying


def written_sum(text):
    """The sum that is so written; whether its names are a cast's isn't asked."""
    if text[:1] == "-" or text[:1].isdigit():
        return (None, read_whole(text))
    name, more = parted_at_sign(text)
    row, dot, place = name.partition(".")
    one = ((row, place) if dot else name, more)
    # So c+0, c+-5 and their kin are none: each sum has one text alone.
    if show_sum(one) != text:
        raise NoText("a sum isn't so written")
    return one


def parted_at_sign(text):
    """The text ahead of its first + or -, and the number from there on, 0 where there is none."""
    for at, sign in enumerate(text):
        if sign == "+":
            return text[:at], read_whole(text[at + 1:])
        if sign == "-":
            return text[:at], read_whole(text[at:])
    return text, 0


def saying_from(words, at, deep):
    """The saying that begins at this word, and where it has ended; whether its names are a cast's isn't asked."""
    if deep > DEEPEST:
        raise NoText("no saying so deep is read")
    word = word_at(words, at)
    if word in BETWEEN_SUMS:
        one = written_sum(word_at(words, at + 1))
        other = written_sum(word_at(words, at + 2))
        return (word, one, other), at + 3
    if word in BETWEEN_PLACES or word == "nexts":
        return (word, word_at(words, at + 1), word_at(words, at + 2)), at + 3
    if word in JOINING:
        parts, behind = parts_from(words, at + 1, deep + 1)
        return (word, parts), behind
    if word == "if":
        first, between = saying_from(words, at + 1, deep + 1)
        second, behind = saying_from(words, between, deep + 1)
        return (word, first, second), behind
    if word not in WORDS_AHEAD:
        raise NoText("no saying begins so")
    start = at + WORDS_AHEAD[word]
    inner, behind = saying_from(words, start, deep + 1)
    return tuple(words[at:start]) + (inner,), behind


def parts_from(words, at, deep):
    """The sayings between the ( at this word and its ), and where that has ended."""
    if word_at(words, at) != "(":
        raise NoText("the parts begin with (")
    at += 1
    parts = []
    while word_at(words, at) != ")":
        part, at = saying_from(words, at, deep)
        parts.append(part)
    return tuple(parts), at + 1


def word_at(words, at):
    """The word there; a text that ends too early is refused."""
    if at >= len(words):
        raise NoText("the saying ends too early")
    return words[at]
