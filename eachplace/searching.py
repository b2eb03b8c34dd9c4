"""The search: branches that are closed, or a standing that breaks a saying."""

from eachplace.branches import Question, first_branch
from eachplace.choosing import choice_of, closed_by_choice, failing, go_on_by, open_strange, order_to_split
from eachplace.choosing import rank_of, take_up
from eachplace.facts import strangers_in
from eachplace.models import holders_of, model_of, undecided_pair
from eachplace.proofs import Way, closed_behind, closed_by_ways
from eachplace.settling import all_made_one, settled


class Split:
    """A branch that goes on in several ways: cases of a fact, or the order of two places."""

    def __init__(self, branch, word, fact, places, cases, source):
        self.branch = branch
        self.word = word
        self.fact = fact
        self.places = places
        self.cases = cases
        # The choice by which it came to the split.
        self.source = source
        self.ways = []

    def next_guests(self):
        """How many strange places come on the way that is gone next."""
        if self.fact is None:
            return 0
        return strangers_in(self.branch.facts[self.fact], len(self.ways))

    def next_branch(self):
        """The branch on the way that is gone next."""
        other = self.branch.twin()
        other.lay(self.cases[len(self.ways)], self.next_guests())
        return other

    def taken_back(self, proof):
        """What closes the branch of the split, one way more being closed; None where more are to be gone."""
        laid = self.branch.next_laid(len(self.cases[len(self.ways)]), self.next_guests())
        # What doesn't rest on the way that was gone closes all others, too.
        if proof.rests & laid.mask() == 0:
            return closed_behind(self.branch.steps, proof)
        self.ways.append(Way(laid, proof))
        self.branch.question.weigh(self.source)
        self.go_again()
        if len(self.ways) < len(self.cases):
            return None
        return closed_behind(self.branch.steps, closed_by_ways(self.word, self.fact, self.places, self.ways))

    def go_again(self):
        """Goes those ways next that were gone already, as cases may stand twice: the same proof closes them."""
        while len(self.ways) < len(self.cases):
            earlier = self.cases.index(self.cases[len(self.ways)])
            if earlier == len(self.ways):
                return
            self.ways.append(self.ways[earlier])


def searched(cast, saying, most, size):
    """("broken", standing), of at most so many places and that size (or None), or ("closed", proof)."""
    branch = first_branch(Question(cast, saying, most, size))
    branch.lay(((False, saying),), 0)
    splits = []
    proof = all_made_one(branch)
    while True:
        if proof is None:
            word, told = gone_on(branch)
            if word == "broken":
                return (word, told)
            if word == "split":
                splits.append(told)
                branch = told.next_branch()
                continue
            proof = told
        while proof is not None and len(splits) > 0:
            proof = splits[-1].taken_back(proof)
            if proof is None:
                branch = splits[-1].next_branch()
            else:
                splits.pop()
        if proof is not None:
            return ("closed", proof)


def gone_on(branch):
    """Goes on without a choice as far as can be: ("broken", standing), ("closed", proof) or ("split", split)."""
    while True:
        proof = settled(branch)
        if proof is not None:
            return ("closed", closed_behind(branch.steps, proof))
        holders = holders_of(branch)
        most = branch.question.most
        if most is not None and len(holders) > most:
            return ("split", split_by_order(branch, undecided_pair(branch, holders), None))
        model = model_of(branch, holders)
        found = failing(branch, model)
        if len(found) == 0:
            return ("broken", model.standing)
        told = acted_on(branch, found)
        if told is not None:
            return told


def acted_on(branch, found):
    """Opens failing facts: None where the branch goes on by itself, else what is told of it."""
    choices = []
    for k, places in found:
        choice = choice_of(branch, k, places)
        if choice.cases is not None and len(choice.free) == 0:
            return ("closed", closed_behind(branch.steps, closed_by_choice(branch, choice)))
        choices.append(choice)
    single = [choice for choice in choices if len(choice.free) == 1]
    for choice in single:
        go_on_by(branch, choice)
    if len(single) > 0:
        return None
    strange = [choice for choice in choices if choice.cases is None]
    if len(strange) > 0:
        open_strange(branch, strange[0])
        return None
    return ("split", split_of(branch, choices))


def split_of(branch, choices):
    """The split by one of these choices."""
    choice = min(choices, key=lambda each: rank_of(branch, each))
    source = (choice.k, choice.places)
    pair = order_to_split(branch, choice)
    if pair is not None:
        return split_by_order(branch, pair, source)
    k = take_up(branch, choice)
    return Split(branch, "cases", k, (), choice.cases, source)


def split_by_order(branch, pair, source):
    """The split by the order of two places, for which a choice asks, or the most (None)."""
    one, other = pair
    ways = (("ahead", one, other), ("here", one, other), ("ahead", other, one))
    return Split(branch, "order", None, pair, [((True, way),) for way in ways], source)
