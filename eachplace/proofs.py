"""Proofs: what closes a branch of the search, with all that it rests on; papers are written from them."""

# A mask has a bit for each strange place, and from here on one for each fact of the branch.
FACT_BIT = 16


class Laid:
    """The facts and strange places that a knot lays behind the others, by their numbers on the branch."""

    def __init__(self, first, many, strange, guests):
        self.first = first
        self.many = many
        self.strange = strange
        self.guests = guests

    def mask(self):
        """The bits of all of these."""
        facts = ((1 << self.many) - 1) << (FACT_BIT + self.first)
        return facts | (((1 << self.guests) - 1) << self.strange)


class Way:
    """One way on from a knot: what is laid on it, and the proof that closes it."""

    def __init__(self, laid, proof):
        self.laid = laid
        self.proof = proof

    def needs(self):
        """The mask of what the way rests on, but what is laid on it."""
        return self.proof.rests & ~self.laid.mask()


class Step:
    """A knot behind which a proof goes on. The other ways are those of a case that are closed at once."""

    def __init__(self, word, fact, laid, places, case, others):
        self.word = word
        self.fact = fact
        self.laid = laid
        self.places = places
        self.case = case
        self.others = others

    def needs(self):
        """The mask of what the step rests on."""
        rests = fact_mask(self.fact) | places_mask(self.places)
        for way in self.others:
            rests |= way.needs()
        return rests


class End:
    """The last knot of a proof: edges, or ways that are all closed."""

    def __init__(self, word, fact, places, edges, ways):
        self.word = word
        self.fact = fact
        self.places = places
        self.edges = edges
        self.ways = ways


class Proof:
    """Steps and an end; the mask of what they rest on; how many knots they are, ways counted too."""

    def __init__(self, steps, end, rests, knots):
        self.steps = steps
        self.end = end
        self.rests = rests
        self.knots = knots


def fact_mask(fact):
    """The bit of a fact, by its number."""
    return 1 << (FACT_BIT + fact)


def places_mask(places):
    """The bits of those places that are strange ones."""
    mask = 0
    for place in places:
        if not isinstance(place, str):
            mask |= 1 << place
    return mask


def closed_by_ways(word, fact, places, ways):
    """A proof that ends in ways, each of which is closed: cases of a fact, or the order of two places."""
    rests = places_mask(places)
    if fact is not None:
        rests |= fact_mask(fact)
    knots = 1
    for way in ways:
        rests |= way.needs()
        knots += way.proof.knots
    return Proof([], End(word, fact, places, None, ways), rests, knots)


def closed_by_edges(word, edges):
    """A proof that ends in a ring, a line, or few."""
    rests = 0
    for edge in edges:
        # An edge of a bound alone has no label, and rests on nothing.
        if edge is not None:
            rests |= fact_mask(edge[0]) if edge[0] is not None else places_mask(edge[1:])
    return Proof([], End(word, None, (), edges, []), rests, 1)


def closed_behind(steps, proof):
    """The proof with those of the steps ahead of it that it rests on."""
    kept = []
    rests = proof.rests
    knots = proof.knots
    for step in reversed(steps):
        own = step.laid.mask()
        if rests & own:
            rests = (rests & ~own) | step.needs()
            knots += 1 + sum(way.proof.knots for way in step.others)
            kept.append(step)
    return Proof(kept[::-1] + proof.steps, proof.end, rests, knots)
