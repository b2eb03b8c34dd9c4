"""Facts: sayings that are so, or aren't; how they are opened, and used at places."""

from eachplace.sayings import BETWEEN_PLACES, BETWEEN_SUMS, BROUGHT, JOINING


def put_for(saying, name, place):
    """The saying with the place for the name, wherever the name stands free for a place."""
    word = saying[0]
    if word in BETWEEN_SUMS:
        return (word, put_in_sum(saying[1], name, place), put_in_sum(saying[2], name, place))
    if word in BETWEEN_PLACES:
        return (word, put_at(saying[1], name, place), put_at(saying[2], name, place))
    if word in JOINING:
        return (word, tuple([put_for(part, name, place) for part in saying[1]]))
    if word == "not" or word == "if":
        return (word,) + tuple([put_for(part, name, place) for part in saying[1:]])
    # Under an each or pairs that tells this very name another place is meant; nexts has none.
    if word == "nexts" or name in saying[1:-1]:
        return saying
    return saying[:-1] + (put_for(saying[-1], name, place),)


def put_at(spot, name, place):
    """What stands at a spot for places, when the place has come for the name."""
    return place if spot == name else spot


def put_in_sum(one, name, place):
    """The sum with the place for the name."""
    base, more = one
    if isinstance(base, tuple):
        return ((base[0], put_at(base[1], name, place)), more)
    return one


def opened(fact, strange):
    """("parts", facts) or ("cases", tuples of facts) that come of a fact, or None."""
    truth, saying = fact
    word = saying[0]
    if word == "not":
        return ("parts", ((not truth, saying[1]),))
    if word in JOINING:
        facts = tuple([(truth, part) for part in saying[1]])
        return ("parts", facts) if truth == (word == "and") else one_case_each(facts)
    if word == "if":
        return opened_if(truth, saying[1], saying[2])
    if word == "same" or word == "unlike":
        return opened_sameness(truth == (word == "same"), saying[1], saying[2])
    if word == "here":
        return None if truth else one_case_each(order_both_ways("ahead", saying[1], saying[2]))
    if word == "next":
        return opened_next(truth, saying[1], saying[2], strange)
    if truth:
        return None
    if word == "each":
        inner = put_for(saying[2], saying[1], strange)
        return ("parts", ((True, ("ahead", strange, "end")), (False, inner)))
    if word == "pairs" or word == "nexts":
        inner = at_two(saying, strange, strange + 1)
        ahead = ((True, ("ahead", strange, strange + 1)), (True, ("ahead", strange + 1, "end")))
        return ("parts", ahead + ((False, inner),))
    return None


def one_case_each(facts):
    """Cases, each of one of these facts."""
    return ("cases", tuple([(fact,) for fact in facts]))


def order_both_ways(word, one, other):
    """Two facts: that the word is so of one and the other, and of the other and one."""
    return ((True, (word, one, other)), (True, (word, other, one)))


def opened_if(truth, first, second):
    """What comes of an if that is so, or isn't."""
    if truth:
        return one_case_each(((False, first), (True, second)))
    return ("parts", ((True, first), (False, second)))


def opened_sameness(same, one, other):
    """What comes of two sums that are the same, or aren't."""
    if same:
        return ("parts", order_both_ways("most", one, other))
    return one_case_each(order_both_ways("less", one, other))


def opened_next(truth, one, other, strange):
    """What comes of a place that is next to another, or isn't: then a strange one may stand between."""
    if truth:
        return ("parts", ((True, ("ahead", one, other)),))
    between = ((True, ("ahead", one, strange)), (True, ("ahead", strange, other)))
    return ("cases", (((False, ("ahead", one, other)),), between))


def at_two(saying, one, other):
    """What a pairs or nexts says of two places, the first one ahead."""
    if saying[0] == "pairs":
        return put_for(put_for(saying[3], saying[1], one), saying[2], other)
    return said_by_word(saying[2], ((saying[1], one), 0), ((saying[1], other), 0))


def said_by_word(word, one, other):
    """What a word of nexts says of two sums."""
    if word == "least":
        return ("most", other, one)
    if word == "more":
        return ("less", other, one)
    return (word, one, other)


def used(fact, places):
    """The fact that comes of a fact at these places, or None."""
    truth, saying = fact
    word = saying[0]
    if not truth:
        return None
    if word == "each" and len(places) == 1:
        return (True, ("if", ("ahead", places[0], "end"), put_for(saying[2], saying[1], places[0])))
    if (word == "pairs" or word == "nexts") and len(places) == 2:
        one, other = places
        in_order = ("and", (("ahead", one, other), ("ahead", other, "end")))
        return (True, ("if", in_order, at_two(saying, one, other)))
    if word == "next" and len(places) == 1:
        between = (("ahead", saying[1], places[0]), ("ahead", places[0], saying[2]))
        return (False, ("and", between))
    return None


def strangers_in(fact, case):
    """How many strange places come where a fact is opened: in this case of it, or in its parts (None)."""
    truth, saying = fact
    if truth:
        return 0
    # Of a next that isn't so the second case alone tells of a place between.
    if saying[0] == "next":
        return 1 if case == 1 else 0
    return BROUGHT.get(saying[0], 0)
