"""Whether sayings hold in a standing."""

from eachplace.sayings import BETWEEN_PLACES, BETWEEN_SUMS
from eachplace.standings import named_places
from eachplace.sums import worth_at
from eachplace.views import View


def holds(cast, standing, saying):
    """Whether the saying holds in this standing."""
    return holds_at(View(cast, standing), named_places(cast, standing), saying)


def holds_at(view, places, saying):
    """Whether the saying holds in a view where the names of places stand so."""
    word = saying[0]
    if word in BETWEEN_SUMS:
        one = worth_at(view, places, saying[1])
        other = worth_at(view, places, saying[2])
        return stands_so(word, one, other)
    if word in BETWEEN_PLACES:
        return lies_so(word, places[saying[1]], places[saying[2]])
    if word == "nexts":
        return all_next_stand_so(view.rows[saying[1]][:-1], saying[2])
    if word == "each":
        return holds_in_each(view, places, saying)
    if word == "pairs":
        return holds_in_pairs(view, places, saying)
    if word == "not":
        return not holds_at(view, places, saying[1])
    if word == "and":
        return all(holds_at(view, places, part) for part in saying[1])
    if word == "or":
        return any(holds_at(view, places, part) for part in saying[1])
    return not holds_at(view, places, saying[1]) or holds_at(view, places, saying[2])


def stands_so(word, one, other):
    """Whether one number stands to the other as the word says."""
    if word == "most":
        return one <= other
    if word == "less":
        return one < other
    if word == "same":
        return one == other
    if word == "unlike":
        return one != other
    if word == "least":
        return one >= other
    return one > other


def lies_so(word, one, other):
    """Whether one place lies to the other as the word says."""
    if word == "ahead":
        return one < other
    if word == "here":
        return one == other
    return one + 1 == other


def all_next_stand_so(numbers, word):
    """Whether each number stands to the next one as the word says."""
    return all(stands_so(word, one, other) for one, other in zip(numbers, numbers[1:]))


def holds_in_each(view, places, saying):
    """Whether what an each says holds in each place."""
    name, inner = saying[1:]
    return all(
        holds_at(view, {**places, name: place}, inner)
        for place in range(view.length)
    )


def holds_in_pairs(view, places, saying):
    """Whether what a pairs says holds in each two places, the first below the second."""
    one, other, inner = saying[1:]
    return all(
        holds_at(view, {**places, one: low, other: high}, inner)
        for high in range(view.length)
        for low in range(high)
    )
