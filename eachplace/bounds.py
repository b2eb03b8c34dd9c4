"""The least bound of numbers that meet edges."""

from eachplace.differences import solved


def bounded(edges):
    """("bound", least, pairs), numbers that meet all edges and go least far from 0, or a ring."""
    told = solved(edges)
    if told[0] == "ring":
        return told
    least = least_bound(nearest_of(edges))
    fences = []
    for thing, number in told[1]:
        fences.append((thing, None, least))
        fences.append((None, thing, least))
    return ("bound", least, solved(tuple(edges) + tuple(fences))[1])


def nearest_of(edges):
    """A dict of dicts: how much each thing may be more than each other one, at most, where edges bind them."""
    nearest = {None: {}}
    for one, other, more in edges:
        nearest.setdefault(one, {})
        nearest.setdefault(other, {})
        bring_nearer(nearest[one], other, more)
    for middle in list(nearest):
        for one in list(nearest):
            if middle in nearest[one] and one != middle:
                pass_through(nearest[one], nearest[one][middle], nearest[middle])
    return nearest


def bring_nearer(row, thing, more):
    """Writes down how far the thing may be, where that is nearer than was known."""
    if thing not in row or more < row[thing]:
        row[thing] = more


def pass_through(row, to_middle, middle):
    """Brings nearer in the row whatever is nearer by way of the middle."""
    for thing in middle:
        bring_nearer(row, thing, to_middle + middle[thing])


def least_bound(nearest):
    """The least bound that leaves room for all of these differences."""
    least = 0
    for one in nearest:
        for other in nearest[one]:
            apart = -nearest[one][other]
            # None stands at 0, so the other one alone must go so far; else each may go half the way.
            alone = one is None or other is None
            least = max(least, apart if alone else (apart + 1) // 2)
    return least
