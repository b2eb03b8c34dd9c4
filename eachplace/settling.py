"""Taking facts in: edges go into the spans, what opens without a choice is opened, all else waits."""

from eachplace.facts import opened, strangers_in
from eachplace.proofs import Step
from eachplace.refuting import closed_ring, is_refuted, node_edge, refutation_by_edges, spot_edge


def settled(branch):
    """Looks at all facts that have come; a proof that closes the branch, or None."""
    while len(branch.todo) > 0:
        proof = taken(branch, branch.todo.pop(0))
        if proof is not None:
            return proof
    return None


def taken(branch, k):
    """Takes in fact k; a proof that closes the branch, or None."""
    fact = branch.facts[k]
    truth, saying = fact
    word = saying[0]
    if word == "most" or word == "less" or word == "ahead" or (word == "here" and truth):
        return tied_in(branch, fact, k)
    if strangers_in(fact, None) > 0 or word == "next" and not truth:
        branch.waiting.append(k)
        return None
    told = opened(fact, branch.strange)
    # A next that is so is opened, and used at places beside.
    if told is None or word == "next":
        branch.lasting.append(k)
    if told is not None and told[0] == "parts":
        branch.steps.append(Step("parts", k, branch.lay(told[1], 0), (), None, []))
    elif told is not None:
        branch.waiting.append(k)
    return None


def tied_in(branch, fact, k):
    """Takes the edges of fact k into the spans; a proof that closes the branch, or None."""
    if is_refuted(branch, fact):
        return refutation_by_edges(branch, fact, k, len(branch.facts))
    word = fact[1][0]
    if word == "most" or word == "less":
        one, other, more = node_edge(branch, fact)
        branch.numbers.tie(one, other, more, (k, None, 0))
        return None
    for way in range(2 if word == "here" else 1):
        one, other, more = spot_edge(branch, fact, way)
        branch.places.tie(one, other, more, (k, way))
    if word == "here":
        proof = made_one(branch, fact[1][1], fact[1][2], k)
        if proof is not None:
            return proof
    return all_made_one(branch)


def all_made_one(branch):
    """Lets the rows have one number wherever two places are surely one; a proof that closes the branch, or None."""
    places = branch.places
    come = branch.come()
    for high in range(1, len(come)):
        for low in range(high):
            if places.is_sure(high, low, 0) and places.is_sure(low, high, 0):
                pair = (come[low], come[high])
                proof = made_one(branch, pair[0], pair[1], pair)
                if proof is not None:
                    return proof
    return None


def made_one(branch, one, other, holder):
    """Lets the rows have one number at two places, by a here's number or a pair; a proof as above, or None."""
    numbers = branch.numbers
    question = branch.question
    for row in question.rows:
        nodes = (question.node((row, one)), question.node((row, other)))
        for way in range(2):
            low, high = nodes[way], nodes[1 - way]
            label = (holder, row, way)
            if numbers.is_refuted(low, high, 0):
                return closed_ring(branch, [label] + numbers.labels_along(high, low), len(branch.facts))
            numbers.tie(low, high, 0, label)
    return None
