"""The edges that facts are: between bases of sums, and between places."""


def sum_edge(fact):
    """The edge (base, base, more) of a fact of the word most or less, or None."""
    truth, saying = fact
    word = saying[0]
    if word != "most" and word != "less":
        return None
    one, other = saying[1:]
    below = word == "less"
    if not truth:
        one, other, below = other, one, not below
    return (ground_of(one[0]), ground_of(other[0]), other[1] - one[1] - (1 if below else 0))


def ground_of(base):
    """The base, but None where it is a row at the end: there each row has 0."""
    if isinstance(base, tuple) and base[1] == "end":
        return None
    return base


def row_edge(fact, row, way):
    """The edge (base, base, 0) of a row at two places that are one, or None."""
    edge = here_edge(fact, way)
    if edge is None:
        return None
    one, other = edge[:2]
    return (ground_of((row, one)), ground_of((row, other)), 0)


def here_edge(fact, way):
    """The edge (place, place, 0) of two places that are one, there (0) or back (1), or None."""
    truth, saying = fact
    if saying[0] != "here" or not truth:
        return None
    return (saying[1 + way], saying[2 - way], 0)


def place_edge(fact, way):
    """The edge (place, place, more) of a fact of the word ahead or here, or None."""
    truth, saying = fact
    if saying[0] != "ahead":
        return here_edge(fact, way)
    if way != 0:
        return None
    if truth:
        return (saying[1], saying[2], -1)
    return (saying[2], saying[1], 0)
