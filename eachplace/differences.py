"""Differences: numbers that meet edges, or a ring of edges that no numbers meet."""


def solved(edges):
    """("numbers", pairs), numbers that meet all edges, or ("ring", numbers of edges), where none do."""
    numbers = {}
    for one, other, more in edges:
        numbers.setdefault(one, 0)
        numbers.setdefault(other, 0)
    lowered_by = {}
    last = lower_all(edges, numbers, lowered_by)
    for turn in range(len(numbers)):
        if last is None:
            return ("numbers", pairs_of(numbers))
        last = lower_all(edges, numbers, lowered_by)
    if last is None:
        return ("numbers", pairs_of(numbers))
    # Without a ring each thing would be settled by now.
    return ("ring", ring_from(edges, lowered_by, last))


def lower_all(edges, numbers, lowered_by):
    """Lowers what stands above its edge, each edge once; the thing that was lowered last, in a tuple, or None."""
    last = None
    for at, (one, other, more) in enumerate(edges):
        if numbers[other] + more < numbers[one]:
            numbers[one] = numbers[other] + more
            lowered_by[one] = at
            # The thing itself may be None.
            last = (one,)
    return last


def pairs_of(numbers):
    """The things but None, each with its number, all moved so that None is worth 0."""
    ground = numbers.get(None, 0)
    return tuple([(thing, numbers[thing] - ground) for thing in numbers if thing is not None])


def ring_from(edges, lowered_by, last):
    """The edges of the ring that is come to from what was lowered last."""
    thing = last[0]
    # So many steps back lead off any way that doesn't come round.
    for step in range(len(lowered_by)):
        thing = edges[lowered_by[thing]][1]
    ring = [lowered_by[thing]]
    first = thing
    thing = edges[ring[0]][1]
    while thing != first:
        ring.append(lowered_by[thing])
        thing = edges[ring[-1]][1]
    return tuple(ring)
