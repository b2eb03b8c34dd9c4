"""What is sure on a branch, and proofs that close facts which can't be so there."""

from eachplace.factedges import place_edge, sum_edge
from eachplace.facts import opened, strangers_in
from eachplace.proofs import Laid, Step, Way, closed_behind, closed_by_edges, closed_by_ways


def is_sure(branch, truth, saying):
    """Whether spans show at once that the saying is so, or that it isn't."""
    word = saying[0]
    if word == "most" or word == "less":
        return is_sure_of_sums(branch, (truth, saying))
    if word == "ahead":
        one, other, more = spot_edge(branch, (truth, saying), 0)
        return branch.places.is_sure(one, other, more)
    if word == "same" or word == "unlike":
        return is_sure_of_sameness(branch, truth == (word == "same"), saying)
    if word == "here":
        return is_sure_of_here(branch, truth, saying)
    if word == "not":
        return is_sure(branch, not truth, saying[1])
    if word == "and" or word == "or":
        if truth == (word == "and"):
            return all(is_sure(branch, truth, part) for part in saying[1])
        return any(is_sure(branch, truth, part) for part in saying[1])
    if word == "if":
        if truth:
            return is_sure(branch, False, saying[1]) or is_sure(branch, True, saying[2])
        return is_sure(branch, True, saying[1]) and is_sure(branch, False, saying[2])
    if word == "next" and not truth:
        return is_sure(branch, False, ("ahead", saying[1], saying[2]))
    return False


def is_refuted(branch, fact):
    """Whether spans show at once that a fact can't be so."""
    return is_sure(branch, not fact[0], fact[1])


def node_edge(branch, fact):
    """The edge of a fact of most or less, between numbers of bases."""
    one, other, more = sum_edge(fact)
    node_of = branch.question.node_of
    return node_of[one], node_of[other], more


def spot_edge(branch, fact, way):
    """The edge of a fact of ahead or here, between numbers of places."""
    one, other, more = place_edge(fact, way)
    spot_of = branch.question.spot_of
    return spot_of[one], spot_of[other], more


def is_sure_of_sums(branch, fact):
    """Whether a fact of most or less is sure."""
    one, other, more = node_edge(branch, fact)
    return branch.numbers.is_sure(one, other, more)


def is_sure_of_sameness(branch, same, saying):
    """Whether it is sure that two sums are the same, or that they aren't."""
    one, other = saying[1:]
    if same:
        both = (("most", one, other), ("most", other, one))
        return all(is_sure_of_sums(branch, (True, part)) for part in both)
    either = (("less", one, other), ("less", other, one))
    return any(is_sure_of_sums(branch, (True, part)) for part in either)


def is_sure_of_here(branch, truth, saying):
    """Whether it is sure that two places are one, or that they aren't."""
    spot_of = branch.question.spot_of
    one, other = spot_of[saying[1]], spot_of[saying[2]]
    places = branch.places
    if truth:
        return places.is_sure(one, other, 0) and places.is_sure(other, one, 0)
    return places.is_sure(one, other, -1) or places.is_sure(other, one, -1)


def refutation(branch, facts, first):
    """A proof that closes the branch, these facts being laid on it from this number on, one of them refuted."""
    at = [k for k, fact in enumerate(facts) if is_refuted(branch, fact)][0]
    fact = facts[at]
    told = opened(fact, branch.strange)
    if told is None:
        return refutation_by_edges(branch, fact, first + at, first + len(facts))
    free = first + len(facts)
    if told[0] == "parts":
        laid = Laid(free, len(told[1]), branch.strange, strangers_in(fact, None))
        step = Step("parts", first + at, laid, (), None, [])
        return closed_behind([step], refutation(branch, told[1], free))
    return closed_by_ways("cases", first + at, (), refuted_ways(branch, fact, told[1], free))


def refuted_ways(branch, fact, cases, free):
    """The ways of all of these cases, each refuted."""
    ways = []
    for case, facts in enumerate(cases):
        laid = Laid(free, len(facts), branch.strange, strangers_in(fact, case))
        ways.append(Way(laid, refutation(branch, facts, free)))
    return ways


def refutation_by_edges(branch, fact, k, free):
    """A proof by the edges of fact k, which spans refute; facts from the free number on may be laid for it."""
    if fact[1][0] == "most" or fact[1][0] == "less":
        one, other, more = node_edge(branch, fact)
        return closed_ring(branch, [(k, None, 0)] + branch.numbers.labels_along(other, one), free)
    way = 0
    one, other, more = spot_edge(branch, fact, way)
    if not branch.places.is_refuted(one, other, more):
        way = 1
        one, other, more = spot_edge(branch, fact, way)
    return closed_line([(k, way)] + branch.places.labels_along(other, one))


def closed_line(labels):
    """A proof by labels of places' edges that come round; one without a label stands for the most."""
    if None not in labels:
        return closed_by_edges("line", labels)
    at = labels.index(None)
    return closed_by_edges("few", labels[at + 1:] + labels[:at])


def closed_ring(branch, labels, free):
    """A proof by labels of bases' edges that come round; facts from the free number on may be laid for it."""
    pairs = []
    for label in labels:
        if is_of_pair(label) and label[0] not in pairs:
            pairs.append(label[0])
    # Each pair of places that are surely one is given a fact of its own that says so.
    edges = [(free + pairs.index(label[0]),) + label[1:] if is_of_pair(label) else label for label in labels]
    proof = closed_by_edges("ring", edges)
    for at in range(len(pairs) - 1, -1, -1):
        proof = closed_where_here(branch, pairs[at], proof, free + at)
    return proof


def is_of_pair(label):
    """Whether a label is of two places that spans show to be one, and not of a fact."""
    return label is not None and isinstance(label[0], tuple)


def closed_where_here(branch, pair, proof, k):
    """The proof, which rests on two places being one as fact k, where spans show that they are."""
    one, other = pair
    laid = Laid(k, 1, 0, 0)
    ahead = refutation_by_edges(branch, (True, ("ahead", one, other)), k, k + 1)
    behind = refutation_by_edges(branch, (True, ("ahead", other, one)), k, k + 1)
    return closed_by_ways("order", None, pair, [Way(laid, ahead), Way(laid, proof), Way(laid, behind)])
