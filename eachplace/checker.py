"""The small checker: whether anything is a paper of a saying."""

from eachplace.factedges import place_edge, row_edge, sum_edge
from eachplace.facts import opened, strangers_in, used
from eachplace.wholes import is_whole

ENDS = ("cases", "order", "ring", "line", "few")


class Ground:
    """What stays the same on all ways of a paper."""

    def __init__(self, cast, most):
        self.rows = cast[0]
        self.named = cast[1] + ("end",)
        self.most = most


def is_paper(cast, saying, thing, most=None):
    """Whether anything is a paper of the saying; with a most, one for standings of at most so many places."""
    return is_closed(Ground(cast, most), thing, [(False, saying)], 0)


def is_closed(ground, paper, facts, strange):
    """Whether anything is a paper that goes on from these facts; facts are laid behind them on its way."""
    if not isinstance(paper, tuple):
        return False
    for at, knot in enumerate(paper):
        if not isinstance(knot, tuple) or len(knot) == 0:
            return False
        if knot[0] in ENDS:
            return at == len(paper) - 1 and is_end(ground, knot, facts, strange)
        strange = behind_step(ground, knot, facts, strange)
        if strange is None:
            return False
    return False


def is_number_of(thing, many):
    """Whether anything is a whole number from 0 to below many."""
    return is_whole(thing) and 0 <= thing < many


def is_place(ground, strange, thing):
    """Whether anything is a place of the cast, the end, or a strange one that has come."""
    return is_number_of(thing, strange) or (isinstance(thing, str) and thing in ground.named)


def behind_step(ground, knot, facts, strange):
    """How many strange places there are behind a step, its facts laid behind the others; None where it is none."""
    word = knot[0]
    if len(knot) < 2 or not is_number_of(knot[1], len(facts)):
        return None
    if word == "parts" and len(knot) == 2:
        return behind_parts(facts, knot[1], strange)
    if word == "use" and len(knot) == 3:
        return behind_use(ground, facts, knot, strange)
    if word == "case" and len(knot) == 4:
        return behind_case(ground, facts, knot, strange)
    return None


def behind_parts(facts, k, strange):
    """How many strange places there are behind fact k, opened as parts; None where it opens otherwise."""
    told = opened(facts[k], strange)
    if told is None or told[0] != "parts":
        return None
    facts.extend(told[1])
    return strange + strangers_in(facts[k], None)


def behind_use(ground, facts, knot, strange):
    """How many strange places there are behind a use; None where it is none."""
    k, places = knot[1:]
    if not isinstance(places, tuple) or not all(is_place(ground, strange, place) for place in places):
        return None
    fact = used(facts[k], places)
    if fact is None:
        return None
    facts.append(fact)
    return strange


def behind_case(ground, facts, knot, strange):
    """How many strange places there are behind a case, all others being closed; None where it is none."""
    k, i, papers = knot[1:]
    cases = cases_of(facts[k], strange)
    if cases is None or not is_number_of(i, len(cases)):
        return None
    others = [case for case in range(len(cases)) if case != i]
    if not are_closed_cases(ground, facts, k, others, papers, strange):
        return None
    facts.extend(cases[i])
    return strange + strangers_in(facts[k], i)


def cases_of(fact, strange):
    """The cases of a fact, None where it opens otherwise."""
    told = opened(fact, strange)
    if told is None or told[0] != "cases":
        return None
    return told[1]


def are_closed_cases(ground, facts, k, numbers, papers, strange):
    """Whether anything is papers that close those cases of fact k that have these numbers, in order."""
    if not isinstance(papers, tuple) or len(papers) != len(numbers):
        return False
    cases = cases_of(facts[k], strange)
    return all(
        is_closed_behind(ground, paper, facts, cases[case], strange + strangers_in(facts[k], case))
        for case, paper in zip(numbers, papers)
    )


def is_closed_behind(ground, paper, facts, laid, strange):
    """Whether anything is a paper that goes on from these facts with some more laid behind."""
    many = len(facts)
    facts.extend(laid)
    told = is_closed(ground, paper, facts, strange)
    del facts[many:]
    return told


def is_end(ground, knot, facts, strange):
    """Whether a knot that begins as an end is one."""
    word = knot[0]
    if word == "cases":
        return len(knot) == 3 and is_end_of_cases(ground, knot, facts, strange)
    if word == "order":
        return len(knot) == 4 and is_end_of_order(ground, knot, facts, strange)
    if len(knot) != 2 or not isinstance(knot[1], tuple) or len(knot[1]) == 0:
        return False
    if word == "ring":
        edges = [ring_edge(ground, facts, thing) for thing in knot[1]]
        return are_in_line(edges) and edges[-1][1] == edges[0][0] and total_of(edges) < 0
    edges = [line_edge(ground, facts, strange, thing) for thing in knot[1]]
    if not are_in_line(edges):
        return False
    if word == "line":
        return edges[-1][1] == edges[0][0] and total_of(edges) < 0
    return ground.most is not None and edges[-1][1] == "end" and total_of(edges) < -ground.most


def is_end_of_cases(ground, knot, facts, strange):
    """Whether papers close all cases of a fact."""
    k, papers = knot[1:]
    if not is_number_of(k, len(facts)):
        return False
    cases = cases_of(facts[k], strange)
    return cases is not None and are_closed_cases(ground, facts, k, list(range(len(cases))), papers, strange)


def is_end_of_order(ground, knot, facts, strange):
    """Whether papers close all three ways in which two places may lie."""
    one, other, papers = knot[1:]
    if not is_place(ground, strange, one) or not is_place(ground, strange, other):
        return False
    if not isinstance(papers, tuple) or len(papers) != 3:
        return False
    ways = (("ahead", one, other), ("here", one, other), ("ahead", other, one))
    return all(
        is_closed_behind(ground, paper, facts, ((True, way),), strange) for way, paper in zip(ways, papers)
    )


def are_in_line(edges):
    """Whether all are edges, none None, and each leads on to the next one."""
    return (
        all(edge is not None for edge in edges)
        and all(one[1] == other[0] for one, other in zip(edges, edges[1:]))
    )


def total_of(edges):
    """What the mores of the edges come to."""
    return sum(more for one, other, more in edges)


def is_way(thing):
    """Whether anything is a way: 0 or 1."""
    return is_number_of(thing, 2)


def ring_edge(ground, facts, thing):
    """The edge between bases that anything is, or None."""
    if not isinstance(thing, tuple) or len(thing) != 3:
        return None
    k, row, way = thing
    if not is_number_of(k, len(facts)) or not is_way(way):
        return None
    if row is None:
        return sum_edge(facts[k]) if way == 0 else None
    if not isinstance(row, str) or row not in ground.rows:
        return None
    return row_edge(facts[k], row, way)


def line_edge(ground, facts, strange, thing):
    """The edge between places that anything is, or None."""
    if not isinstance(thing, tuple) or len(thing) != 2:
        return None
    k, way = thing
    if k is None:
        return (way, "end", 0) if is_place(ground, strange, way) else None
    if not is_number_of(k, len(facts)) or not is_way(way):
        return None
    return place_edge(facts[k], way)
