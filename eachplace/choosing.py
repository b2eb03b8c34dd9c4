"""What to do next on a branch whose model isn't a break: which facts fail in it, and how they are opened."""

from eachplace.facts import at_two, opened, strangers_in, used
from eachplace.holding import holds_at
from eachplace.proofs import Step, Way, closed_by_ways
from eachplace.refuting import is_refuted, is_sure, refutation, refuted_ways


class Choice:
    """A fact that fails in a model: its number, the places it is to be used at (or None), its cases, the free ones."""

    def __init__(self, k, places, fact, cases, free):
        self.k = k
        self.places = places
        self.fact = fact
        self.cases = cases
        self.free = free


def failing(branch, model):
    """The numbers of facts that fail in the model, each with the places where it is to be used, or None."""
    found = []
    for k in branch.waiting:
        truth, saying = branch.facts[k]
        if holds_at(model.view, model.spots, saying) != truth:
            found.append((k, None))
    for k in branch.lasting:
        saying = branch.facts[k][1]
        for places in places_for(model, saying):
            # What was used once fails only as a fact that waits.
            if (k, places) not in branch.spent and fails_at(model, saying, places):
                found.append((k, places))
    return found


def places_for(model, saying):
    """The tuples of places of the model, in order, that a lasting saying tells of."""
    holders = model.holders
    if saying[0] == "each":
        return [(place,) for place in holders]
    if saying[0] == "next":
        return [(place,) for place in holders[model.spots[saying[1]] + 1:model.spots[saying[2]]]]
    return [(low, high) for at, high in enumerate(holders) for low in holders[:at]]


def fails_at(model, saying, places):
    """Whether a lasting saying fails at these places of the model, of which it tells."""
    if saying[0] == "next":
        return True
    if saying[0] == "nexts":
        return not holds_at(model.view, model.spots, at_two(saying, places[0], places[1]))
    spots = dict(model.spots)
    for name, place in zip(saying[1:-1], places):
        spots[name] = spots[place]
    return not holds_at(model.view, spots, saying[-1])


def choice_of(branch, k, places):
    """How a failing fact opens; its cases are None where it opens as parts, with strange places."""
    fact = branch.facts[k] if places is None else used(branch.facts[k], places)
    told = opened(fact, branch.strange)
    if told[0] == "parts":
        return Choice(k, places, fact, None, [])
    free = [at for at, case in enumerate(told[1]) if not any(is_refuted(branch, part) for part in case)]
    return Choice(k, places, fact, told[1], free)


def take_up(branch, choice):
    """The number of the choice's fact, once it stands among the branch's; it waits no longer."""
    if choice.places is None:
        branch.waiting.remove(choice.k)
        return choice.k
    branch.spent[(choice.k, choice.places)] = True
    laid = branch.lay_aside(choice.fact)
    branch.steps.append(Step("use", choice.k, laid, choice.places, None, []))
    return laid.first


def closed_by_choice(branch, choice):
    """The proof that closes the branch by a fact none of whose cases is free."""
    k = take_up(branch, choice)
    return closed_by_ways("cases", k, (), refuted_ways(branch, choice.fact, choice.cases, len(branch.facts)))


def go_on_by(branch, choice):
    """Lays the one free case of a fact behind the others."""
    k = take_up(branch, choice)
    case = choice.free[0]
    # Strange places may have come since the choice was looked at, so the next one has another number.
    cases = opened(choice.fact, branch.strange)[1]
    ways = []
    for at, facts in enumerate(cases):
        if at != case:
            laid = branch.next_laid(len(facts), strangers_in(choice.fact, at))
            ways.append(Way(laid, refutation(branch, facts, laid.first)))
    laid = branch.lay(cases[case], strangers_in(choice.fact, case))
    branch.steps.append(Step("case", k, laid, (), case, ways))


def open_strange(branch, choice):
    """Opens a fact with which strange places come."""
    k = take_up(branch, choice)
    laid = branch.lay(opened(choice.fact, branch.strange)[1], strangers_in(choice.fact, None))
    branch.steps.append(Step("parts", k, laid, (), None, []))


def order_to_split(branch, choice):
    """The two places whose order a use of an each, pairs or nexts waits for, or None."""
    if choice.places is None or choice.fact[1][0] != "if":
        return None
    pairs = list(zip(choice.places, choice.places[1:] + ("end",)))
    undecided = [pair for pair in pairs if not is_sure(branch, True, ("ahead", pair[0], pair[1]))]
    return undecided[0] if undecided else None


def rank_of(branch, choice):
    """The least of these is to be split by: first without an order, then by few ways, then by much weight."""
    weight = branch.question.weights.get((choice.k, choice.places), 0)
    pair = order_to_split(branch, choice)
    if pair is None:
        return (0, len(choice.free), -weight)
    # In the model the first is ahead of the second, so it isn't known that it is behind.
    one, other = pair
    known = is_sure(branch, False, ("ahead", other, one))
    return (1, 2 if known else 3, -weight)
