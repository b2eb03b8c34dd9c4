import itertools
import random
import unittest

from eachplace.checker import is_paper
from eachplace.deciding import decided
from eachplace.holding import holds
from eachplace.sayings import atoms_in, needed
from eachplace.sayingtexts import read_saying
from tests.helpers import Asking, Maker, odd_things, shape

CAST = (("a", "b"), ("i", "j"), ("c",))
RING = ("ring", ((1, None, 0),))


def said(text):
    return read_saying(CAST, text)


def spots_of(paper, path=()):
    """Each path to a part of the paper, the paper itself too."""
    yield path
    if isinstance(paper, tuple):
        for at, part in enumerate(paper):
            yield from spots_of(part, path + (at,))


def part_at(paper, path):
    for at in path:
        paper = paper[at]
    return paper


def put_at(paper, path, thing):
    """The paper with the thing at the path."""
    if path == ():
        return thing
    at = path[0]
    return paper[:at] + (put_at(paper[at], path[1:], thing),) + paper[at + 1:]


class PaperTest(Asking, unittest.TestCase):
    def assert_let_by(self, text, paper, most=None):
        self.assert_yes(is_paper, CAST, said(text), paper, most)

    def assert_refused(self, text, *papers, most=None):
        for paper in papers:
            self.assert_no(is_paper, CAST, said(text), paper, most)


class StepTest(PaperTest):
    def test_parts(self):
        text = "not less c c"
        self.assert_let_by(text, (("parts", 0), RING))
        for k in (1, 2, -1, True, False, None, "0", (0,), [0]):
            self.assert_refused(text, (("parts", k), RING))
        self.assert_refused(
            text,
            (RING,), (("parts", 0),), (("parts",), RING), (("parts", 0, 0), RING), (["parts", 0], RING), [("parts", 0), RING],
            (("part", 0), RING), (("parts", 0), ("parts", 1), RING), (("parts", 0), RING, RING), (("parts", 0), RING, ("parts", 0)),
            ((), ("parts", 0), RING), (("parts", 0), (), RING), (("parts", 0), None, RING), (("parts", 0), "ring", RING),
        )
        self.assert_let_by(text, (("parts", 0), ("parts", 0), ("ring", ((2, None, 0),))))

    def test_parts_of_none_and_of_many(self):
        self.assert_let_by("if and ( ) most c c", (("parts", 0), ("parts", 1), ("ring", ((2, None, 0),))))
        self.assert_refused("if and ( ) most c c", (("parts", 0), ("parts", 1), ("ring", ((3, None, 0),))))
        text = "not and ( most a.i b.j most b.j c less c a.i )"
        edges = ((2, None, 0), (3, None, 0), (4, None, 0))
        self.assert_let_by(text, (("parts", 0), ("parts", 1), ("ring", edges)))
        self.assert_let_by(text, (("parts", 0), ("parts", 1), ("ring", edges[1:] + edges[:1])))
        self.assert_refused(text, (("parts", 0), ("parts", 1), ("ring", edges[::-1])))

    def test_what_opens_as_cases_is_no_parts(self):
        text = "and ( most c c most c c )"
        one = ("ring", ((1, None, 0),))
        self.assert_let_by(text, (("cases", 0, ((one,), (one,))),))
        self.assert_let_by(text, (("case", 0, 0, ((one,),)), one))
        self.assert_refused(text, (("parts", 0), one), (("parts", 0), ("ring", ((2, None, 0),))))

    def test_strange_places_come_with_parts(self):
        text = "each x same a.x a.x"
        one = ("ring", ((3, None, 0),))
        self.assert_let_by(text, (("parts", 0), ("cases", 2, ((one,), (one,)))))
        # What has come may be told of, and nothing else.
        for place in (0, "i", "j", "end"):
            paper = (("parts", 0), ("cases", 2, ((one,), (("order", place, 0, ((one,), (one,), (one,))),))))
            self.assert_let_by(text, paper)
        for place in (1, -1, True, False, None, "x", "a", "c", "", (0,), [0]):
            paper = (("parts", 0), ("cases", 2, ((one,), (("order", place, 0, ((one,), (one,), (one,))),))))
            self.assert_refused(text, paper)

    def test_two_strange_places_come_with_pairs_and_nexts(self):
        one = ("ring", ((4, None, 0),))
        for place, let_by in ((0, True), (1, True), (2, False)):
            paper = (("parts", 0), ("cases", 3, ((one,), (("order", place, 0, ((one,), (one,), (one,))),))))
            self.assertIs(is_paper(CAST, said("pairs x y same a.x a.x"), paper), let_by)
        text = "if nexts a less not not nexts a less"
        # 1 nexts; 2 not not nexts isn't; 3 not nexts is; 4 nexts isn't; 5, 6 the order; 7 less isn't; 8 used.
        ahead = (("parts", 0), ("parts", 2), ("parts", 3), ("parts", 4))
        guard = ("cases", 9, ((("line", ((5, 0), (10, 0))),), (("line", ((6, 0), (10, 0))),)))
        behind = (("case", 8, 1, ((guard,),)), ("ring", ((9, None, 0), (7, None, 0))))
        self.assert_let_by(text, ahead + (("use", 1, (0, 1)),) + behind)
        for places in ((0, 2), (2, 1), (1, 0), (0, 0), (0,), (0, 1, 1), [0, 1], (0, True), (False, 1)):
            self.assert_refused(text, ahead + (("use", 1, places),) + behind)
        self.assert_refused(text, (("use", 1, (0, 1)),) + ahead + behind, ahead + (("use", 4, (0, 1)),) + behind)


class UseTest(PaperTest):
    TEXT = "if each x less a.x c if ahead i end less a.i c"
    AHEAD = (("parts", 0), ("parts", 2))
    BEHIND = (("case", 5, 1, ((("line", ((3, 0), (6, 0))),),)), ("ring", ((6, None, 0), (4, None, 0))))

    def test_use(self):
        self.assert_let_by(self.TEXT, self.AHEAD + (("use", 1, ("i",)),) + self.BEHIND)

    def test_wrong_uses(self):
        for places in (
            (), ("i", "i"), ("j",), ("end",), ("x",), ("a",), ("c",), ("k",), (0,), (-1,), (True,), (None,), ["i"], "i", None, 0,
            (["i"],), (("i",),), {"i": True},
        ):
            self.assert_refused(self.TEXT, self.AHEAD + (("use", 1, places),) + self.BEHIND)
        for k in (0, 2, 3, 4, 5, 6, -1, -4, True, None, "1", (1,)):
            self.assert_refused(self.TEXT, self.AHEAD + (("use", k, ("i",)),) + self.BEHIND)
        for knot in (("use", 1), ("use", 1, ("i",), ()), ("use",), ["use", 1, ("i",)], ("used", 1, ("i",))):
            self.assert_refused(self.TEXT, self.AHEAD + (knot,) + self.BEHIND)
        self.assert_refused(self.TEXT, self.AHEAD + (("use", 1, ("i",)),), (("use", 1, ("i",)),) + self.AHEAD + self.BEHIND)

    def test_use_of_pairs_and_next(self):
        text = "if and ( pairs x y most a.x a.y ahead i j ahead j end ) most a.i a.j"
        # 1 the and; 2 most isn't; 3 pairs; 4, 5 ahead; 6 used; 7, 8 its guard isn't.
        guard = ("cases", 7, ((("line", ((4, 0), (8, 0))),), (("line", ((5, 0), (8, 0))),)))
        paper = (
            ("parts", 0), ("parts", 1), ("use", 3, ("i", "j")),
            ("case", 6, 1, ((guard,),)), ("ring", ((7, None, 0), (2, None, 0))),
        )
        self.assert_let_by(text, paper)
        for places in (("j", "i"), ("i",), ("i", "end"), ("i", "i"), ()):
            self.assert_refused(text, put_at(paper, (2, 2), places))
        text = "not and ( next i j ahead i end next end j )"
        paper = (("parts", 0), ("parts", 1), ("parts", 4), ("line", ((5, 0), (None, "j"))))
        self.assert_let_by(text, paper)
        text = "if next i j each x not and ( ahead i x ahead x j )"
        # 1 next; 2 each isn't; 3 strange ahead of end; 4 not isn't; 5 and; 6, 7 ahead; 8 used.
        paper = (
            ("parts", 0), ("parts", 2), ("parts", 4), ("parts", 5), ("use", 1, (0,)),
            ("cases", 8, ((("line", ((6, 0), (9, 0))),), (("line", ((7, 0), (9, 0))),))),
        )
        self.assert_let_by(text, paper)
        for places in ((1,), ("i",), (0, 0), (), (True,), (False,)):
            self.assert_refused(text, put_at(paper, (4, 2), places))


class CaseTest(PaperTest):
    TEXT = "not and ( less c 5 or ( same c 5 less 7 c less 5 c ) )"
    # 1 the and; 2 less; 3 the or; 4 a case of it; 5, 6 the same opened.
    AHEAD = (("parts", 0), ("parts", 1))
    SAME = (("parts", 4), ("ring", ((2, None, 0), (6, None, 0))))
    BELOW = (("ring", ((2, None, 0), (4, None, 0))),)

    def test_case(self):
        self.assert_let_by(self.TEXT, self.AHEAD + (("case", 3, 0, (self.BELOW, self.BELOW)),) + self.SAME)
        self.assert_let_by(self.TEXT, self.AHEAD + (("case", 3, 1, (self.SAME, self.BELOW)),) + self.BELOW)
        self.assert_let_by(self.TEXT, self.AHEAD + (("case", 3, 2, (self.SAME, self.BELOW)),) + self.BELOW)

    def test_cases(self):
        self.assert_let_by(self.TEXT, self.AHEAD + (("cases", 3, (self.SAME, self.BELOW, self.BELOW)),))

    def test_cases_of_none(self):
        self.assert_let_by("not or ( )", (("parts", 0), ("cases", 1, ())))
        self.assert_let_by("and ( )", (("cases", 0, ()),))
        self.assert_refused("or ( )", (("cases", 0, ()),), (("parts", 0), ("cases", 0, ())), (("parts", 0),))
        self.assert_refused("and ( )", (("case", 0, 0, ()),), (("case", 0, 0, ()), ("cases", 0, ())), (("cases", 0, ((),)),))
        self.assert_refused("and ( )", (("cases", 0),), (("cases", 0, (), ()),), (("cases", 0, []),), (("cases", 0, None),))

    def test_wrong_cases(self):
        same, below = self.SAME, self.BELOW
        for k in (0, 1, 2, 4, -1, True, None, "3"):
            self.assert_refused(self.TEXT, self.AHEAD + (("case", k, 0, (below, below)),) + same)
            self.assert_refused(self.TEXT, self.AHEAD + (("cases", k, (same, below, below)),))
        for i in (1, 3, -1, -3, True, False, None, "0", (0,)):
            self.assert_refused(self.TEXT, self.AHEAD + (("case", 3, i, (below, below)),) + same)
        for papers in (
            (), (below,), (below, below, below), (same, below), (below, same), [below, below], None, (below, ()), (below, list(below)),
            (below, below[0]), (below, same + below), (below, below + below), (below, self.AHEAD),
        ):
            self.assert_refused(self.TEXT, self.AHEAD + (("case", 3, 0, papers),) + same)
        for papers in (
            (), (same, below), (same, below, below, below), (below, same, below), (below, below, below), [same, below, below],
            (same, below, ()), (same, [below], below), None,
        ):
            self.assert_refused(self.TEXT, self.AHEAD + (("cases", 3, papers),))
        for knot in (("case", 3, 0), ("case", 3, 0, (below, below), ()), ("case", 3, (below, below)), ["case", 3, 0, (below, below)]):
            self.assert_refused(self.TEXT, self.AHEAD + (knot,) + same)
        right = ("cases", 3, (same, below, below))
        self.assert_refused(
            self.TEXT, self.AHEAD + (right, right), self.AHEAD + (right,) + below, self.AHEAD + (("case", 3, 0, (below, below)),),
            self.AHEAD + (("cases", 3, 0, (same, below, below)),),
        )

    def test_papers_go_on_from_their_own_case_alone(self):
        # The second paper's fact 4 is its own; a fact 5 has come in the first one only.
        wrong = (("ring", ((2, None, 0), (5, None, 0))),)
        self.assert_refused(self.TEXT, self.AHEAD + (("cases", 3, (self.SAME, wrong, self.BELOW)),))
        self.assert_refused(self.TEXT, self.AHEAD + (("case", 3, 0, (self.BELOW, wrong)),) + self.SAME)

    def test_next_that_is_not_so(self):
        text = "if and ( not ahead i j ) not next i j"
        self.assert_let_by(text, (("parts", 0), ("parts", 1), ("parts", 3), ("parts", 2), ("parts", 5), ("line", ((4, 0), (6, 0)))))
        text = "if and ( ahead i j each x not and ( ahead i x ahead x j ) ) next i j"
        # 1 the and; 2 next isn't; 3 ahead; 4 each; then the cases: 5 not ahead, or 5, 6 a strange place between.
        none = ("line", ((3, 0), (5, 0)))
        # 7 used; 8 its guard isn't so, or it is: 8 not, 9 and isn't.
        guard = ("line", ((8, 0), (None, "j"), (6, 0)))
        inner = ("cases", 9, ((("line", ((5, 0), (10, 0))),), (("line", ((6, 0), (10, 0))),)))
        between = (("use", 4, (0,)), ("case", 7, 1, ((guard,),)), ("parts", 8), inner)
        ahead = (("parts", 0), ("parts", 1))
        guard_at = put_at(between, (1, 3, 0, 0, 1), ((8, 0), (6, 0), (None, "j")))
        self.assert_let_by(text, ahead + (("case", 2, 1, ((none,),)),) + guard_at)
        self.assert_let_by(text, ahead + (("case", 2, 0, (guard_at,)), none))
        self.assert_let_by(text, ahead + (("cases", 2, ((none,), guard_at)),))
        # In the first case no strange place has come.
        self.assert_refused(text, ahead + (("cases", 2, ((("use", 4, (0,)), none), guard_at)),))
        self.assert_refused(text, ahead + (("case", 2, 0, (guard_at,)), ("use", 4, (0,)), none))
        self.assert_refused(text, ahead + (("case", 2, 1, ((("use", 4, (0,)), none),)),) + guard_at)
        self.assert_refused(text, ahead + (("use", 4, (0,)), ("case", 2, 1, ((none,),))) + guard_at)
        self.assert_refused(text, ahead + (("parts", 2), none))
        # In the second case just one has come.
        for place, let_by in ((0, True), (1, False)):
            paper = ahead + (("case", 2, 1, ((none,),)), ("use", 4, (place,)), ("use", 4, (0,)))
            later = put_at(put_at(guard_at[1:], (0, 1), 8), (0, 3, 0, 0, 1, 0), (9, 0))
            later = put_at(put_at(later, (1, 1), 9), (2, 1), 10)
            later = put_at(put_at(later, (2, 2, 0, 0, 1, 1), (11, 0)), (2, 2, 1, 0, 1, 1), (11, 0))
            self.assertIs(is_paper(CAST, said(text), paper + later), let_by)


class OrderTest(PaperTest):
    TEXT = "or ( ahead i j here i j ahead j i )"
    ONE = (("line", ((4, 0), (1, 0))),)
    HERE = (("cases", 2, ((("line", ((5, 0), (4, 1))),), (("line", ((5, 0), (4, 0))),))),)
    OTHER = (("line", ((4, 0), (3, 0))),)

    def test_order(self):
        papers = (self.ONE, self.HERE, self.OTHER)
        self.assert_let_by(self.TEXT, (("parts", 0), ("order", "i", "j", papers)))
        back = (self.OTHER, self.HERE, self.ONE)
        swapped = put_at(put_at(self.HERE, (0, 2, 0, 0, 1, 1), (4, 0)), (0, 2, 1, 0, 1, 1), (4, 1))
        self.assert_let_by(self.TEXT, (("parts", 0), ("order", "j", "i", (back[0], swapped, back[2]))))
        self.assert_refused(self.TEXT, (("parts", 0), ("order", "j", "i", papers)), (("parts", 0), ("order", "j", "i", back)))

    def test_of_one_place_and_of_the_end(self):
        self.assert_let_by("most c c", (("order", "i", "i", (((("ring", ((0, None, 0),))),),) * 3),))
        never = (("line", ((1, 0),)),)
        ring = (("ring", ((0, None, 0),)),)
        self.assert_let_by("most c c", (("order", "i", "i", (never, ring, never)),))
        self.assert_let_by("most c c", (("order", "end", "i", ((("line", ((1, 0), (None, "i"))),), ring, ring)),))
        self.assert_refused("most c c", (("order", "i", "j", (never, ring, never)),))

    def test_both_are_places(self):
        papers = ((("ring", ((0, None, 0),)),),) * 3
        right = ("i", "j", "end")
        for one, other in itertools.product(right, repeat=2):
            self.assert_let_by("most c c", (("order", one, other, papers),))
        for place in ("k", "a", "c", "x", "", 0, 1, -1, True, False, None, ("i",), ["i"], {}):
            self.assert_refused("most c c", (("order", place, "i", papers),), (("order", "i", place, papers),))

    def test_wrong_orders(self):
        papers = (self.ONE, self.HERE, self.OTHER)
        for place in ("k", "a", "c", "", 0, -1, True, None, ("i",), ["i"]):
            self.assert_refused(self.TEXT, (("parts", 0), ("order", place, "j", papers)), (("parts", 0), ("order", "i", place, papers)))
        for wrong in (
            papers[:2], papers[1:], (), papers + (self.ONE,), list(papers), None, (self.ONE, self.OTHER, self.HERE),
            (self.ONE, self.HERE, ()), (self.ONE, self.HERE, list(self.OTHER)), (self.ONE, self.HERE, self.OTHER[0]),
        ):
            self.assert_refused(self.TEXT, (("parts", 0), ("order", "i", "j", wrong)))
        order = ("order", "i", "j", papers)
        self.assert_refused(
            self.TEXT, (order,), (("parts", 0), list(order)), (("parts", 0), order[:3]), (("parts", 0), order + (0,)),
            (("parts", 0), order, order), (("parts", 0), order, ("parts", 0)), (("parts", 0), ("order", "i", papers)),
        )


class RingTest(PaperTest):
    def assert_ring(self, text, *edges, ahead=(("parts", 0),), let_by=True):
        self.assertIs(is_paper(CAST, said(text), ahead + (("ring", edges),)), let_by, (text, edges))

    def test_each_fact_that_is_an_edge(self):
        self.assert_ring("if most a.i c+4 most a.i c+4", (1, None, 0), (2, None, 0))
        self.assert_ring("if most a.i c+4 most a.i c+5", (1, None, 0), (2, None, 0))
        self.assert_ring("if most a.i c+4 most a.i c+3", (1, None, 0), (2, None, 0), let_by=False)
        self.assert_ring("if less a.i c+4 less a.i c+4", (1, None, 0), (2, None, 0))
        self.assert_ring("if less a.i c+4 less a.i c+3", (1, None, 0), (2, None, 0), let_by=False)
        self.assert_ring("if less a.i c+4 most a.i c+3", (1, None, 0), (2, None, 0))
        self.assert_ring("if less a.i c+4 most a.i c+2", (1, None, 0), (2, None, 0), let_by=False)
        self.assert_ring("if most a.i c+4 less a.i c+5", (1, None, 0), (2, None, 0))
        self.assert_ring("if most a.i c+4 less a.i c+4", (1, None, 0), (2, None, 0), let_by=False)
        self.assert_ring("if not most c 3 not most c 3", (3, None, 0), (4, None, 0), ahead=(("parts", 0), ("parts", 1), ("parts", 2)))

    def test_sums_without_base_and_at_the_end(self):
        self.assert_ring("less 3 4", (0, None, 0), ahead=())
        self.assert_ring("less 3 3", (0, None, 0), ahead=(), let_by=False)
        self.assert_ring("most a.end b.end", (0, None, 0), ahead=())
        self.assert_ring("most a.end-1 0", (0, None, 0), ahead=())
        self.assert_ring("most 1 a.end", (0, None, 0), ahead=(), let_by=False)
        self.assert_ring("if most 5 c most a.end+5 c", (1, None, 0), (2, None, 0))
        self.assert_ring("if most 5 c most 5 a.i", (1, None, 0), (2, None, 0), let_by=False)

    def test_rows_at_two_places_that_are_one(self):
        text = "if here i j most a.i a.j"
        self.assert_ring(text, (1, "a", 0), (2, None, 0))
        for edge in (
            (1, "a", 1), (1, "b", 0), (1, None, 0), (1, "c", 0), (1, "i", 0), (1, "", 0), (1, "a", 2), (1, "a", -1), (1, "a", False),
            (1, "a", None), (1, ("a",), 0), (1, ["a"], 0), (1, 0, 0), (1, True, 0), (True, "a", 0), (0, "a", 0), (2, "a", 0),
            (3, "a", 0), (-2, "a", 0), (None, "a", 0), (1, "a"), (1, "a", 0, 0), [1, "a", 0], (1, 0), None, "a", (),
        ):
            self.assert_ring(text, edge, (2, None, 0), let_by=False)
            self.assert_ring(text, (2, None, 0), edge, let_by=False)
        self.assert_ring("if here i j most a.j a.i", (1, "a", 1), (2, None, 0))
        self.assert_ring("if here i j most a.j a.i", (1, "a", 0), (2, None, 0), let_by=False)
        self.assert_ring("if here i end most a.i 0", (1, "a", 0), (2, None, 0))
        self.assert_ring("if here i end most 0 b.i", (1, "b", 1), (2, None, 0))
        self.assert_ring("if here i end most a.i 0", (1, "b", 0), (2, None, 0), let_by=False)
        # Only a here that is so is an edge.
        self.assert_ring("if not here i j most a.i a.j", (3, "a", 0), (2, None, 0), ahead=(("parts", 0), ("parts", 1)), let_by=False)
        self.assert_ring("if ahead i j most a.i a.j", (1, "a", 0), (2, None, 0), let_by=False)

    def test_rows_are_the_casts(self):
        # The way to the row and back adds nothing, so that only its name is wrong.
        text = "if here i end most 0 0"
        for row in ("a", "b"):
            self.assert_ring(text, (2, None, 0), (1, row, 1), (1, row, 0))
        for row in ("c", "i", "end", "zz", "", "A", None, 0, True, ("a",), ["a"], {"a": 0}, ()):
            self.assert_ring(text, (2, None, 0), (1, row, 1), (1, row, 0), let_by=False)

    def test_wrong_edges_of_sums(self):
        text = "if most a.i c most a.i c"
        for edge in (
            (1, "a", 0), (1, "b", 0), (1, None, 1), (1, None, True), (1, None, False), (1, None, None), (1, None, 2), (1, None), (1, 0),
            (1, None, 0, 0), [1, None, 0], (True, None, 0), (0, None, 0), (2, None, 0), (3, None, 0), (-2, None, 0), ("1", None, 0),
        ):
            self.assert_ring(text, edge, (2, None, 0), let_by=False)
        self.assert_ring(text, (1, None, 0), let_by=False)
        self.assert_ring(text, (2, None, 0), let_by=False)
        self.assert_ring(text, let_by=False)
        for edges in ([(1, None, 0), (2, None, 0)], None, 0, "ring", {}):
            self.assert_refused(text, (("parts", 0), ("ring", edges)))
        right = ((1, None, 0), (2, None, 0))
        self.assert_refused(text, (("parts", 0), ("ring",)), (("parts", 0), ("ring", right, ())), (("parts", 0), ("rings", right)))
        self.assert_refused("if same a.i c most a.i c", (("parts", 0), ("ring", right)))

    def test_edges_must_come_round(self):
        text = "if and ( most a.i c less c b.j ) most b.j a.i"
        ahead = (("parts", 0), ("parts", 1))
        self.assert_ring(text, (3, None, 0), (4, None, 0), (2, None, 0), ahead=ahead, let_by=False)
        text = "if and ( most a.i c less c b.j ) less a.i b.j"
        right = ((3, None, 0), (4, None, 0), (2, None, 0))
        self.assert_ring(text, *right, ahead=ahead)
        self.assert_ring(text, *right[1:], right[0], ahead=ahead)
        self.assert_ring(text, *right, *right, ahead=ahead)
        for edges in itertools.product(right, repeat=3):
            rounds = [right[k:] + right[:k] for k in range(3)]
            self.assert_ring(text, *edges, ahead=ahead, let_by=edges in rounds)
        for edges in (right[:2], right[1:], (right[0], right[2]), right + right[:1], right + right[:2]):
            self.assert_ring(text, *edges, ahead=ahead, let_by=False)

    def test_one_edge_several_times(self):
        text = "if and ( most c a.i most a.i c+1 ) most c c"
        there, back = (3, None, 0), (4, None, 0)
        self.assert_ring(text, *(there, back) * 3, ahead=(("parts", 0), ("parts", 1)), let_by=False)
        self.assert_ring(text, *(there, back) * 3 + ((2, None, 0),) * 4, ahead=(("parts", 0), ("parts", 1)))
        self.assert_ring(text, *(there, back) * 3 + ((2, None, 0),) * 3, ahead=(("parts", 0), ("parts", 1)), let_by=False)


class LineTest(PaperTest):
    def assert_line(self, text, *edges, ahead=(("parts", 0),), let_by=True):
        self.assertIs(is_paper(CAST, said(text), ahead + (("line", edges),)), let_by, (text, edges))

    def test_each_fact_that_is_an_edge(self):
        self.assert_line("if ahead i j ahead i j", (1, 0), (2, 0))
        self.assert_line("if ahead i j ahead j i", (1, 0), (2, 0), let_by=False)
        self.assert_line("not ahead i i", (1, 0))
        self.assert_line("ahead i i", (0, 0), ahead=(), let_by=False)
        self.assert_line("if here i j not ahead i j", (1, 1), (3, 0), ahead=(("parts", 0), ("parts", 2)))
        self.assert_line("if here i j not ahead i j", (1, 0), (3, 0), ahead=(("parts", 0), ("parts", 2)), let_by=False)
        self.assert_line("if here i j not ahead j i", (1, 0), (3, 0), ahead=(("parts", 0), ("parts", 2)))
        self.assert_line("not ahead end i", (1, 0), (None, "i"))
        self.assert_line("not ahead end i", (1, 0), (None, "i"), (None, "end"))
        self.assert_line("not ahead i end", (1, 0), (None, "i"), let_by=False)

    def test_wrong_edges(self):
        for edge in (
            (None, "j"), (None, "k"), (None, "a"), (None, 0), (None, True), (None, None), (None, ""), (None, ("i",)), (None,), (None, "i", 0),
            [None, "i"], ("i", None), ("i", 0), (0, 0), (-1, 0), (2, 0), (True, 0), None, (), "i", 0, (None, 0, 0),
        ):
            self.assert_line("not ahead end i", (1, 0), edge, let_by=False)
            self.assert_line("not ahead end i", edge, (1, 0), let_by=False)
        for edge in ((1, 1), (1, -1), (1, 2), (1, True), (1, False), (1, None), (1,), (1, 0, 0), [1, 0], (1, None, 0), (True, 0), (-2, 0)):
            self.assert_line("if ahead i j ahead i j", edge, (2, 0), let_by=False)
        for edge in ((1, 2), (1, False), (1, None), (1, "a"), (1, "a", 0)):
            self.assert_line("if here i j not ahead j i", edge, (3, 0), ahead=(("parts", 0), ("parts", 2)), let_by=False)
        # Neither a most nor a here that isn't so, nor a next, is an edge between places.
        self.assert_line("if most a.i a.j ahead i j", (1, 0), (2, 0), let_by=False)
        self.assert_line("if ahead i j here i j", (1, 0), (2, 0), let_by=False)
        self.assert_line("if next i j ahead i j", (1, 0), (2, 0), let_by=False)
        self.assert_line("if next i j ahead i j", (3, 0), (2, 0), ahead=(("parts", 0), ("parts", 1)))

    def test_lines_must_come_round_below_nought(self):
        self.assert_line("if ahead i j ahead i j", let_by=False)
        self.assert_line("if ahead i j ahead i j", (1, 0), let_by=False)
        self.assert_line("if ahead i j ahead i j", (2, 0), let_by=False)
        self.assert_line("if ahead i j ahead i j", (2, 0), (1, 0))
        self.assert_line("if ahead i j ahead i j", (1, 0), (2, 0), (1, 0), let_by=False)
        self.assert_line("if ahead i j ahead i j", (1, 0), (2, 0), (1, 0), (2, 0))
        # A sum of 0 is none.
        self.assert_line("if here i j ahead j i", (1, 0), (1, 1), let_by=False)
        self.assert_line("ahead i end", (None, "end"), ahead=(), let_by=False)
        text = "if ahead i j ahead i j"
        for edges in ([(1, 0), (2, 0)], None, 5, {}):
            self.assert_refused(text, (("parts", 0), ("line", edges)))
        right = ((1, 0), (2, 0))
        self.assert_refused(text, (("parts", 0), ("line",)), (("parts", 0), ("line", right, 0)), (("parts", 0), ("lines", right)))
        self.assert_refused(text, (("parts", 0), ("ring", right)), (("parts", 0), ("few", right)))


class FewTest(PaperTest):
    def assert_few(self, most, text, *edges, ahead=(("parts", 0),), let_by=True):
        self.assertIs(is_paper(CAST, said(text), ahead + (("few", edges),), most), let_by, (text, edges))
        self.assertIs(is_paper(CAST, said(text), thing=ahead + (("few", edges),), most=most), let_by)

    def test_few(self):
        text = "not ahead i j"
        self.assert_few(0, text, (1, 0), (None, "j"))
        self.assert_few(1, text, (1, 0), (None, "j"), let_by=False)
        self.assert_few(None, text, (1, 0), (None, "j"), let_by=False)
        text = "not and ( ahead i j ahead j end )"
        ahead = (("parts", 0), ("parts", 1))
        self.assert_few(1, text, (2, 0), (3, 0), ahead=ahead)
        self.assert_few(0, text, (2, 0), (3, 0), ahead=ahead)
        self.assert_few(0, text, (3, 0), ahead=ahead)
        self.assert_few(1, text, (3, 0), ahead=ahead, let_by=False)
        self.assert_few(2, text, (2, 0), (3, 0), ahead=ahead, let_by=False)
        self.assert_few(10 ** 30, text, (2, 0), (3, 0), ahead=ahead, let_by=False)

    def test_it_leads_to_the_end(self):
        text = "not and ( ahead i j ahead j end )"
        ahead = (("parts", 0), ("parts", 1))
        self.assert_few(0, text, (2, 0), ahead=ahead, let_by=False)
        self.assert_few(0, text, (3, 0), (2, 0), ahead=ahead, let_by=False)
        self.assert_few(0, text, ahead=ahead, let_by=False)
        self.assert_few(0, text, (None, "i"), ahead=ahead, let_by=False)
        self.assert_few(0, text, (None, "end"), ahead=ahead, let_by=False)
        self.assert_few(0, text, (2, 0), (None, "j"), (None, "end"), ahead=ahead)
        self.assert_few(0, text, (2, 0), (None, "i"), ahead=ahead, let_by=False)
        # From the end, too.
        self.assert_few(0, "not ahead end i", (1, 0), (None, "i"))
        self.assert_few(1, "not ahead end i", (1, 0), (None, "i"), let_by=False)

    def test_wrong_ones(self):
        text = "not ahead i j"
        for edge in ((1, 1), (True, 0), (0, 0), (2, 0), (1, False), [1, 0], (1,), (1, 0, 0), (1, None, 0)):
            self.assert_few(0, text, edge, (None, "j"), let_by=False)
        for edge in ((None, "k"), (None, 0), (None, True), (None,), None):
            self.assert_few(0, text, (1, 0), edge, let_by=False)
        right = ((1, 0), (None, "j"))
        self.assert_refused(
            text, (("parts", 0), ("few", list(right))), (("parts", 0), ("few",)), (("parts", 0), ("few", right, 0)),
            (("parts", 0), ("few", right), ("few", right)), (("few", right),), most=0,
        )

    def test_other_ends_are_the_same_with_a_most(self):
        for most in (None, 0, 1, 5):
            self.assert_let_by("not less c c", (("parts", 0), RING), most)
            self.assert_let_by("and ( )", (("cases", 0, ()),), most)
            self.assert_refused("most c 5", (RING,), (("ring", ((0, None, 0),)),), most=most)


class AnythingTest(PaperTest):
    def papers(self):
        """Sayings that hold, each with the paper that was told of it."""
        texts = (
            "if each x less a.x c if ahead i end less a.i c", "if nexts a most pairs x y most a.x a.y", "if here i j same a.i a.j",
            "if and ( ahead i j each x not and ( ahead i x ahead x j ) ) next i j", "or ( ahead i j here i j ahead j i )",
            "if and ( pairs x y unlike a.x a.y not here i j ahead i end ahead j end ) unlike a.i a.j",
        )
        for text in texts:
            word, paper = decided(CAST, said(text))
            self.assertEqual(word, "holds")
            yield said(text), paper

    def test_odd_things_in_its_stead(self):
        for thing in odd_things():
            for text in ("most c c", "and ( )", "or ( )", "not less c c", "each x most a.x a.x"):
                for most in (None, 0):
                    self.assert_no(is_paper, CAST, said(text), thing, most)

    def test_odd_things_within(self):
        things = [thing for thing in odd_things() if len(repr(thing)) < 200 and thing not in ((), 0, 1)]
        for saying, paper in self.papers():
            self.assertIs(is_paper(CAST, saying, paper), True)
            for path in spots_of(paper):
                for thing in things + [True, False, -1, 99, "k", [part_at(paper, path)]]:
                    # A None or "end" may rightly stand where another one stood.
                    if thing in (None, "end") or shape(thing) == shape(part_at(paper, path)):
                        continue
                    wrong = put_at(paper, path, thing)
                    self.assertIs(is_paper(CAST, saying, wrong), False, (saying, wrong))

    def test_parts_left_out_or_doubled(self):
        for saying, paper in self.papers():
            for path in spots_of(paper):
                if path == () or not isinstance(part_at(paper, path[:-1]), tuple):
                    continue
                whole = part_at(paper, path[:-1])
                at = path[-1]
                shorter = put_at(paper, path[:-1], whole[:at] + whole[at + 1:])
                self.assertIs(is_paper(CAST, saying, shorter), False, (saying, shorter))
                self.assertIs(is_paper(CAST, saying, put_at(paper, path[:-1], whole + (None,))), False)


class SoundTest(unittest.TestCase):
    def test_no_changed_paper_shows_what_is_not_so(self):
        dice = random.Random(13)
        held, broken = [], []
        maker = Maker(CAST, 13)
        while len(held) < 120:
            saying = ("if", maker.saying(3), maker.saying(3))
            if needed(CAST, saying) > 6 or atoms_in(saying) > 40:
                continue
            word, told = decided(CAST, saying)
            if word == "holds":
                self.assertIs(is_paper(CAST, saying, told), True)
                held.append((saying, told))
            else:
                self.assertIs(holds(CAST, told, saying), False)
                broken.append(saying)
        for turn in range(8000):
            saying, paper = dice.choice(held)
            if dice.random() < 0.8:
                path = dice.choice(list(spots_of(paper)))
                other = dice.choice(held)[1]
                source = dice.choice([paper, other])
                paper = put_at(paper, path, part_at(source, dice.choice(list(spots_of(source)))))
            self.assertIs(is_paper(CAST, dice.choice(broken), paper), False)
            # Where it is let by, it must be so: these sayings hold.
            self.assertIn(is_paper(CAST, saying, paper), (True, False))

    def test_with_a_most_only_short_standings_are_told_of(self):
        saying = said("not and ( ahead i j ahead j end )")
        paper = (("parts", 0), ("parts", 1), ("few", ((2, 0), (3, 0))))
        self.assertIs(is_paper(CAST, saying, paper, most=1), True)
        self.assertIs(is_paper(CAST, saying, paper, most=2), False)
        self.assertIs(holds(CAST, (((0, 0), (0, 0)), (0, 1), (0,)), saying), False)


if __name__ == "__main__":
    unittest.main()
