"""Carrying: sayings that hold in a standing just where others hold in the turned one."""

from eachplace.carriers import Back, Carrier, Changed, Exchanged, Front, Moved, Turned
from eachplace.facts import at_two
from eachplace.names import free_names
from eachplace.sayings import BETWEEN_PLACES, BETWEEN_SUMS, JOINING


def carried(cast, saying, turning):
    """A saying of the cast that holds in a standing just where the saying holds in the turned one."""
    return carried_by(carrier_of(cast, turning), saying, ())


def carrier_of(cast, turning):
    """What carries sayings over the turning."""
    word = turning[0]
    fresh = tuple(free_names(cast[0] + cast[1] + cast[2], 2))
    if word == "turned":
        return Turned(fresh)
    if word == "moved":
        return Moved(fresh, turning[1])
    if word == "back":
        return Back(fresh, turning[1])
    # At the end nothing is changed, exchanged or cut off.
    if "end" in turning[1:]:
        return Carrier(fresh)
    if word == "changed":
        return Changed(fresh, turning[1], turning[2], turning[3])
    if word == "exchanged":
        return Exchanged(fresh, turning[1], turning[2], turning[3])
    return Front(fresh, turning[1])


def carried_by(carrier, saying, inner):
    """The saying, carried; inner are the names that an each or pairs around it tells."""
    word = saying[0]
    if word in BETWEEN_SUMS:
        return joined_cases(word, carrier.sums_for(saying[1], inner), carrier.sums_for(saying[2], inner))
    if word in BETWEEN_PLACES:
        return carried_places(carrier, saying, inner)
    if word in JOINING:
        return (word, tuple([carried_by(carrier, part, inner) for part in saying[1]]))
    if word == "not" or word == "if":
        return (word,) + tuple([carried_by(carrier, part, inner) for part in saying[1:]])
    if word == "nexts":
        return carried_nexts(carrier, saying)
    names = saying[1:-1]
    return carrier.over_all(names, carried_by(carrier, saying[-1], names))


def carried_places(carrier, saying, inner):
    """What comes of a saying between places."""
    word, one, other = saying
    if word == "ahead":
        return carrier.ahead(one, other, inner)
    if word == "here":
        return carrier.here(one, other, inner)
    return carrier.next_to(one, other)


def carried_nexts(carrier, saying):
    """What comes of a nexts."""
    told = carrier.in_order(saying[1], saying[2])
    if told is not None:
        return told
    # Its words are passed on from neighbours to any two in order, so that a pairs says the same.
    one, other = carrier.fresh
    return carried_by(carrier, ("pairs", one, other, at_two(saying, one, other)), ())


def joined_cases(word, ones, others):
    """That the word is so of two sums, of whichever case each is."""
    told = []
    for conditions, one in ones:
        inner = [(also, (word, one, other)) for also, other in others]
        told.append((conditions, one_of(inner)))
    return one_of(told)


def one_of(cases):
    """That the conditions of a case are so, and what is said of it; a lone case has none."""
    if len(cases) == 1:
        return cases[0][1]
    return ("or", tuple([("and", conditions + (said,)) for conditions, said in cases]))
