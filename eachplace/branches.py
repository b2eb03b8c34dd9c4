"""Branches of the search: the facts that have come on one, and what is sure of places and numbers there."""

from eachplace.factedges import ground_of
from eachplace.proofs import Laid
from eachplace.sayings import BETWEEN_SUMS, brought, parts_of
from eachplace.spans import loose_spans


class Question:
    """What stays the same on all branches: the cast, the bounds, and the things that spans are between."""

    def __init__(self, cast, saying, most, size):
        self.cast = cast
        self.most = most
        self.size = size
        # The end is the first of all; behind the cast's places stand the strange ones that may come.
        self.spots = ["end"] + list(cast[1]) + list(range(brought(saying, False)))
        self.spot_of = {place: at for at, place in enumerate(self.spots)}
        told = {}
        self.greatest = tell_of_sums(saying, told)
        self.rows = [row for row in cast[0] if row in told]
        self.bases = [None] + [name for name in cast[2] if name in told]
        self.bases.extend([(row, place) for row in self.rows for place in self.spots[1:]])
        self.node_of = {base: at for at, base in enumerate(self.bases)}
        self.weights = {}

    def weigh(self, source):
        """Writes down that a split which came by this choice was needed for a proof once more."""
        self.weights[source] = self.weights.get(source, 0) + 1

    def node(self, base):
        """The number of a base among those of the spans; all that is worth 0 is one."""
        return self.node_of[ground_of(base)]


def tell_of_sums(saying, told):
    """Writes down which rows and numbers the saying tells of; the greatest more in it, without its sign."""
    word = saying[0]
    if word == "nexts":
        told[saying[1]] = True
    if word in BETWEEN_SUMS:
        for base, more in saying[1:]:
            if base is not None:
                told[base[0] if isinstance(base, tuple) else base] = True
        return max(abs(more) for base, more in saying[1:])
    return max([tell_of_sums(part, told) for part in parts_of(saying)], default=0)


class Branch:
    """Facts by their numbers; those that wait to be opened, and those that may be used at any place."""

    def __init__(self, question, places, numbers):
        self.question = question
        self.places = places
        self.numbers = numbers
        self.facts = []
        self.strange = 0
        self.waiting = []
        self.lasting = []
        # At which places lasting facts were used.
        self.spent = {}
        # Facts that have come and not yet been looked at, and the steps since the branch went its own way.
        self.todo = []
        self.steps = []

    def twin(self):
        """A branch that is like this one and goes its own way."""
        other = Branch(self.question, self.places.twin(), self.numbers.twin())
        other.facts = list(self.facts)
        other.strange = self.strange
        other.waiting = list(self.waiting)
        other.lasting = list(self.lasting)
        other.spent = {key: True for key in self.spent}
        return other

    def come(self):
        """The places that there are: the end, the cast's, and the strange ones that have come."""
        question = self.question
        return question.spots[:len(question.cast[1]) + 1 + self.strange]

    def next_laid(self, many, guests):
        """What so many facts and strange places will be, if they come next."""
        return Laid(len(self.facts), many, self.strange, guests)

    def lay(self, facts, guests):
        """Lays facts behind the others, to be looked at, and lets strange places come."""
        laid = self.next_laid(len(facts), guests)
        self.todo.extend(list(range(laid.first, laid.first + laid.many)))
        self.facts.extend(facts)
        self.strange += guests
        return laid

    def lay_aside(self, fact):
        """Lays a fact behind the others that needs not be looked at."""
        laid = self.next_laid(1, 0)
        self.facts.append(fact)
        return laid


def first_branch(question):
    """A branch without facts, in which all that is bound is sure."""
    places = loose_spans(len(question.spots), 1 + (question.most or 0))
    for at, place in enumerate(question.spots):
        if at > 0:
            places.tie(at, 0, 0, (None, place))
            if question.most is not None:
                places.tie(0, at, question.most, None)
    numbers = loose_spans(len(question.bases), 2 * question.greatest + 1 + (question.size or 0))
    if question.size is not None:
        for at in range(1, len(question.bases)):
            numbers.tie(at, 0, question.size, None)
            numbers.tie(0, at, question.size, None)
    return Branch(question, places, numbers)
