"""Standings in which all edges of a branch are met, as near to 0 as can be."""

from eachplace.views import View


class Model:
    """A standing; where the places of a branch stand in it; and of each place of its rows one that stands there."""

    def __init__(self, cast, standing, spots, holders):
        self.standing = standing
        self.view = View(cast, standing)
        self.spots = spots
        self.holders = holders


def bound_spots(branch):
    """A list of truths: whether edges of facts tell of each place that has come."""
    question = branch.question
    told = [False] * len(question.spots)
    for one, other, more, label in branch.places.edges:
        if label is not None and label[0] is not None:
            told[one] = True
            told[other] = True
    for one, other, more, label in branch.numbers.edges:
        if label is not None:
            for node in (one, other):
                base = question.bases[node]
                if isinstance(base, tuple):
                    told[question.spot_of[base[1]]] = True
    return told


def holders_of(branch):
    """Of those places that must stand somewhere the first ones, those that are surely one but once, in an order."""
    places = branch.places
    told = bound_spots(branch)
    firsts = []
    for spot in range(1, len(branch.come())):
        earlier = [0] + firsts
        if told[spot] and not any(are_one(places, spot, first) for first in earlier):
            firsts.append(spot)
    # Who is surely not behind another one has fewer not behind itself.
    ranks = {}
    for spot in firsts:
        ranks[spot] = (len([other for other in firsts if places.is_sure(other, spot, 0)]), spot)
    return sorted(firsts, key=lambda spot: ranks[spot])


def are_one(places, one, other):
    """Whether two places are surely one."""
    return places.is_sure(one, other, 0) and places.is_sure(other, one, 0)


def undecided_pair(branch, holders):
    """Two neighbours of these places in order, the end behind them, that might yet be one."""
    spots = branch.question.spots
    for one, other in zip(holders, holders[1:] + [0]):
        if not branch.places.is_sure(one, other, -1):
            return (spots[one], spots[other])
    return None


def numbers_of(branch):
    """A dict of the number of each base that edges of facts bind; the greatest without its sign is the least so."""
    numbers = branch.numbers
    many = numbers.many
    nodes = {0: True}
    for one, other, more, label in numbers.edges:
        if label is not None:
            nodes[one] = True
            nodes[other] = True
    rows = {node: numbers.reach[node * many:node * many + many] for node in nodes}
    size = max(0, -min(rows[0]))
    for node in rows:
        size = max(size, -rows[node][0], (1 - min(rows[node])) // 2)
    bases = branch.question.bases
    return {bases[node]: min(rows[node][0], size + min(rows[node])) for node in rows if node > 0}


def model_of(branch, holders):
    """A model of the branch, its rows' places held by these."""
    question = branch.question
    come = branch.come()
    length = len(holders)
    spots = {}
    for spot, place in enumerate(come):
        at = [k for k, holder in enumerate(holders) if are_one(branch.places, spot, holder)]
        spots[place] = at[0] if at else length
    numbers = numbers_of(branch)
    names = [question.spots[holder] for holder in holders]
    rows, places, named = question.cast
    standing = (
        tuple([tuple([numbers.get((row, name), 0) for name in names]) for row in rows]),
        tuple([spots[place] for place in places]),
        tuple([numbers.get(name, 0) for name in named]),
    )
    return Model(question.cast, standing, spots, names)
