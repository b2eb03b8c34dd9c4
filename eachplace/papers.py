"""Papers, written from proofs: the numbers of facts and strange places are those of the paper's own way."""



class Page:
    """Which numbers the facts and strange places of a branch have in the paper, so far."""

    def __init__(self, facts, strange, many, guests):
        self.facts = facts
        self.strange = strange
        self.many = many
        self.guests = guests

    def behind(self, laid):
        """The page behind a knot that lays this."""
        facts = dict(self.facts)
        for k in range(laid.many):
            facts[laid.first + k] = self.many + k
        strange = dict(self.strange)
        for k in range(laid.guests):
            strange[laid.strange + k] = self.guests + k
        return Page(facts, strange, self.many + laid.many, self.guests + laid.guests)

    def place(self, place):
        """The place as it is called in the paper."""
        return place if isinstance(place, str) else self.strange[place]


def paper_of(proof):
    """The paper of a proof that rests on the first fact alone."""
    return written(proof, Page({0: 0}, {}, 1, 0))


def written(proof, page):
    """The paper of a proof that goes on from this page."""
    knots = []
    while True:
        for step in proof.steps:
            knots.append(step_knot(step, page))
            page = page.behind(step.laid)
        end = proof.end
        if end.word != "cases" or len(end.ways) == 0:
            knots.append(end_knot(end, page))
            return tuple(knots)
        # The longest way goes on in this paper, so that papers don't lie deep in one another.
        sizes = [way.proof.knots for way in end.ways]
        case = sizes.index(max(sizes))
        others = papers_of(end.ways[:case] + end.ways[case + 1:], page)
        knots.append(("case", page.facts[end.fact], case, others))
        page = page.behind(end.ways[case].laid)
        proof = end.ways[case].proof


def papers_of(ways, page):
    """The papers of ways that part at this page."""
    papers = []
    for at, way in enumerate(ways):
        # A way that is gone twice has one paper.
        earlier = ways.index(way)
        papers.append(papers[earlier] if earlier < at else written(way.proof, page.behind(way.laid)))
    return tuple(papers)


def step_knot(step, page):
    """The knot of a step."""
    k = page.facts[step.fact]
    if step.word == "parts":
        return ("parts", k)
    if step.word == "use":
        return ("use", k, tuple([page.place(place) for place in step.places]))
    return ("case", k, step.case, papers_of(step.others, page))


def end_knot(end, page):
    """The knot of an end."""
    if end.word == "cases":
        return ("cases", page.facts[end.fact], ())
    if end.word == "order":
        one, other = end.places
        return ("order", page.place(one), page.place(other), papers_of(end.ways, page))
    if end.word == "ring":
        return ("ring", tuple([(page.facts[k], row, way) for k, row, way in end.edges]))
    return (end.word, tuple([line_part(edge, page) for edge in end.edges]))


def line_part(edge, page):
    """An edge between places as it stands in the paper."""
    k, way = edge
    if k is None:
        return (None, page.place(way))
    return (page.facts[k], way)
