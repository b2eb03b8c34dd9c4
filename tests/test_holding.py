import itertools
import unittest

from eachplace.holding import holds
from tests.helpers import Asking, Maker, nested

CAST = (("a", "b"), ("i", "j"), ("c",))
LONE = (("a",), (), ())
YES = ("and", ())
NO = ("or", ())
GREAT = 10 ** 30 - 1


def row(*numbers):
    return ((numbers,), (), ())


def at(name, place, more=0):
    return ((name, place), more)


def as_python(saying):
    """What the saying says, in Python's words."""
    word = saying[0]
    signs = {"most": "<=", "less": "<", "same": "==", "unlike": "!=", "least": ">=", "more": ">"}
    if word in ("most", "less", "same", "unlike"):
        return f"({sum_as_python(saying[1])} {signs[word]} {sum_as_python(saying[2])})"
    if word == "ahead":
        return f"({saying[1]} < {saying[2]})"
    if word == "here":
        return f"({saying[1]} == {saying[2]})"
    if word == "next":
        return f"({saying[2]} - {saying[1]} == 1)"
    if word == "nexts":
        return f"all({saying[1]}[k - 1] {signs[saying[2]]} {saying[1]}[k] for k in range(1, end))"
    if word == "not":
        return f"(not {as_python(saying[1])})"
    if word in ("and", "or"):
        return f" {word} ".join(["(" + str(word == "and"), *map(as_python, saying[1])]) + ")"
    if word == "if":
        return f"({as_python(saying[2])} if {as_python(saying[1])} else True)"
    if word == "each":
        return f"(not [0 for {saying[1]} in range(end) if not {as_python(saying[2])}])"
    loops = f"for {saying[1]} in range(end) for {saying[2]} in range({saying[1]} + 1, end)"
    return f"(not [0 {loops} if not {as_python(saying[3])}])"


def sum_as_python(one):
    base, more = one
    if base is None:
        return f"({more})"
    return f"({base} + {more})" if isinstance(base, str) else f"([*{base[0]}, 0][{base[1]}] + {more})"


class HoldingTest(Asking, unittest.TestCase):
    def assert_holds(self, truth, cast, standing, saying):
        (self.assert_yes if truth else self.assert_no)(holds, cast, standing, saying)
        (self.assert_no if truth else self.assert_yes)(holds, cast, standing, ("not", saying))

    def test_between_sums(self):
        for one, other in itertools.product((-GREAT, -2, 0, 1, 2, GREAT - 1, GREAT), repeat=2):
            standing = (((one,), (other,)), (0, 1), (other,))
            for right in (at("b", "i"), ("c", 0), (None, other)):
                left = at("a", "i")
                self.assert_holds(one <= other, CAST, standing, ("most", left, right))
                self.assert_holds(one < other, CAST, standing, ("less", left, right))
                self.assert_holds(one == other, CAST, standing, ("same", left, right))
                self.assert_holds(one != other, CAST, standing, ("unlike", left, right))

    def test_mores_count(self):
        standing = (((4,), (7,)), (0, 0), (5,))
        self.assert_holds(True, CAST, standing, ("most", at("a", "i", 3), at("b", "j")))
        self.assert_holds(False, CAST, standing, ("most", at("a", "i", 4), at("b", "j")))
        self.assert_holds(True, CAST, standing, ("less", at("a", "i"), ("c", 0)))
        self.assert_holds(False, CAST, standing, ("less", at("a", "i"), ("c", -1)))
        self.assert_holds(True, CAST, standing, ("same", (None, 5), ("c", 0)))
        self.assert_holds(False, CAST, standing, ("unlike", ("c", 2), at("b", "i")))

    def test_sums_at_the_end_are_nought_and_more(self):
        for standing in ((((), ()), (0, 0), (0,)), (((9, 9), (9, 9)), (2, 2), (0,))):
            for place in ("i", "j", "end"):
                self.assert_holds(True, CAST, standing, ("same", at("a", place), (None, 0)))
                self.assert_holds(True, CAST, standing, ("same", at("b", place, -4), ("c", -4)))

    def test_between_places(self):
        for length in range(4):
            for i, j in itertools.product(range(length + 1), repeat=2):
                standing = (((7,) * length,) * 2, (i, j), (0,))
                places = {"i": i, "j": j, "end": length}
                for one, other in itertools.product(places, repeat=2):
                    self.assert_holds(places[one] < places[other], CAST, standing, ("ahead", one, other))
                    self.assert_holds(places[one] == places[other], CAST, standing, ("here", one, other))
                    self.assert_holds(places[one] + 1 == places[other], CAST, standing, ("next", one, other))

    def test_joined_ones(self):
        standing = row(1)
        self.assert_holds(True, LONE, standing, YES)
        self.assert_holds(False, LONE, standing, NO)
        for first, second, third in itertools.product((YES, NO), repeat=3):
            truths = [first == YES, second == YES, third == YES]
            self.assert_holds(all(truths), LONE, standing, ("and", (first, second, third)))
            self.assert_holds(any(truths), LONE, standing, ("or", (first, second, third)))
            self.assert_holds(not truths[0] or truths[1], LONE, standing, ("if", first, second))

    def test_of_no_places_all_hold(self):
        for saying in (
            ("each", "x", NO), ("pairs", "x", "y", NO), ("nexts", "a", "less"), ("nexts", "a", "more"), ("nexts", "a", "same"),
        ):
            self.assert_holds(True, LONE, row(), saying)

    def test_each(self):
        above = ("each", "x", ("less", (None, 0), at("a", "x")))
        for numbers in itertools.product((-1, 0, 1), repeat=3):
            for length in range(4):
                self.assert_holds(min(numbers[:length], default=1) > 0, LONE, row(*numbers[:length]), above)
        self.assert_holds(False, LONE, row(1), ("each", "x", NO))

    def test_each_has_no_end(self):
        standing = row(5, 5)
        self.assert_holds(True, LONE, standing, ("each", "x", ("ahead", "x", "end")))
        self.assert_holds(True, LONE, standing, ("each", "x", ("same", at("a", "x"), (None, 5))))

    def test_each_beside_named_places(self):
        saying = ("each", "x", ("if", ("ahead", "x", "i"), ("most", at("a", "x"), at("b", "j"))))
        self.assert_holds(True, CAST, (((1, 2, 9), (3, 2, 1)), (2, 1), (0,)), saying)
        self.assert_holds(False, CAST, (((1, 2, 9), (3, 2, 1)), (3, 1), (0,)), saying)
        self.assert_holds(False, CAST, (((1, 2, 9), (3, 2, 1)), (2, 2), (0,)), saying)
        self.assert_holds(True, CAST, (((1, 2, 9), (3, 2, 1)), (0, 3), (0,)), saying)

    def test_pairs_are_in_order(self):
        rising = ("pairs", "x", "y", ("less", at("a", "x"), at("a", "y")))
        backward = ("pairs", "y", "x", ("less", at("a", "x"), at("a", "y")))
        for numbers in itertools.product((-1, 0, 1, 2), repeat=3):
            for length in range(4):
                some = numbers[:length]
                rises = all(one < other for one, other in zip(some, some[1:]))
                falls = all(one > other for one, other in zip(some, some[1:]))
                self.assert_holds(rises, LONE, row(*some), rising)
                self.assert_holds(falls, LONE, row(*some), backward)
        for length in range(5):
            self.assert_holds(True, LONE, row(*[0] * length), ("pairs", "x", "y", ("ahead", "x", "y")))
            self.assert_holds(True, LONE, row(*[0] * length), ("pairs", "x", "y", ("ahead", "y", "end")))
            self.assert_holds(length < 2, LONE, row(*[0] * length), ("pairs", "x", "y", NO))

    def test_pairs_are_not_neighbours_alone(self):
        unlike = ("pairs", "x", "y", ("unlike", at("a", "x"), at("a", "y")))
        self.assert_holds(False, LONE, row(1, 2, 1), unlike)
        self.assert_holds(True, LONE, row(1, 2, 3), unlike)
        self.assert_holds(False, LONE, row(1, 2, 3, 4, 1), unlike)
        self.assert_holds(False, LONE, row(0, 1, 2, 3, 3), unlike)

    def test_nexts(self):
        words = {
            "most": lambda one, other: one <= other,
            "less": lambda one, other: one < other,
            "same": lambda one, other: one == other,
            "least": lambda one, other: one >= other,
            "more": lambda one, other: one > other,
        }
        for length in range(5):
            for numbers in itertools.product((-1, 0, GREAT), repeat=length):
                for word, told in words.items():
                    truth = all(told(one, other) for one, other in zip(numbers, numbers[1:]))
                    self.assert_holds(truth, LONE, row(*numbers), ("nexts", "a", word))

    def test_nexts_is_of_its_row(self):
        standing = (((1, 2, 3), (3, 2, 1)), (0, 0), (0,))
        self.assert_holds(True, CAST, standing, ("nexts", "a", "less"))
        self.assert_holds(False, CAST, standing, ("nexts", "b", "less"))
        self.assert_holds(True, CAST, standing, ("nexts", "b", "more"))

    def test_nexts_leaves_the_end_out(self):
        self.assert_holds(True, LONE, row(1, 2), ("nexts", "a", "less"))
        self.assert_holds(True, LONE, row(-2, -1), ("nexts", "a", "less"))
        self.assert_holds(True, LONE, row(-3), ("nexts", "a", "more"))

    def test_long_rows(self):
        numbers = tuple(range(40))
        self.assert_holds(True, LONE, row(*numbers), ("pairs", "x", "y", ("less", at("a", "x"), at("a", "y"))))
        self.assert_holds(False, LONE, row(*numbers, 0), ("nexts", "a", "less"))
        self.assert_holds(False, LONE, row(*numbers), ("each", "x", ("less", at("a", "x"), (None, 39))))

    def test_deep_ones(self):
        for core, truth in ((("same", at("a", "end"), (None, 0)), True), (("nexts", "a", "less"), False)):
            standing = row(2, 1)
            for deep in range(1, 27):
                saying = nested(lambda inner: ("not", inner), deep, core)
                self.assert_holds(truth == (deep % 2 == 0), LONE, standing, saying)
            self.assert_holds(truth, LONE, standing, nested(lambda inner: ("and", (YES, inner)), 13, core))
            self.assert_holds(truth, LONE, standing, nested(lambda inner: ("or", (NO, inner)), 13, core))
            self.assert_holds(truth, LONE, standing, nested(lambda inner: ("if", YES, inner), 13, core))

    def test_made_ones(self):
        maker = Maker(CAST, "holding")
        truths = []
        for _ in range(1500):
            saying = maker.saying(5)
            told = eval("lambda a, b, i, j, c, end: " + as_python(saying))
            for length in range(5):
                standing = maker.standing(length)
                (a, b), (i, j), (c,) = standing
                truth = told(a, b, i, j, c, length)
                truths.append(truth)
                self.assertIs(holds(CAST, standing, saying), truth, (standing, saying))
        self.assertGreater(truths.count(True), 1000)
        self.assertGreater(truths.count(False), 1000)


if __name__ == "__main__":
    unittest.main()
