import unittest

from eachplace.facts import opened, put_for, used
from tests.helpers import asked_twice, shape

A = (("a", "i"), 1)
B = ("c", -2)
S = ("most", A, B)
T = ("here", "i", "j")
MOST = ("most", A, B)


def at(row, place, more=0):
    return ((row, place), more)


class FactsTest(unittest.TestCase):
    def assert_told(self, function, handed, told):
        self.assertEqual(shape(asked_twice(self, function, *handed)), shape(told), handed)

    def assert_parts(self, fact, *facts, strange=3):
        self.assert_told(opened, (fact, strange), ("parts", facts))

    def assert_cases(self, fact, *cases, strange=3):
        self.assert_told(opened, (fact, strange), ("cases", cases))


class PutForTest(FactsTest):
    def test_free_spots(self):
        for word in ("most", "less", "same", "unlike"):
            saying = (word, at("a", "x", 5), at("b", "y", -5))
            self.assert_told(put_for, (saying, "x", 0), (word, at("a", 0, 5), at("b", "y", -5)))
            self.assert_told(put_for, (saying, "y", "i"), (word, at("a", "x", 5), at("b", "i", -5)))
            self.assert_told(put_for, (saying, "z", 0), saying)
        for word in ("ahead", "here", "next"):
            self.assert_told(put_for, ((word, "x", "x"), "x", 7), (word, 7, 7))
            self.assert_told(put_for, ((word, "x", "y"), "y", "end"), (word, "x", "end"))
            self.assert_told(put_for, ((word, "end", "x"), "x", "i"), (word, "end", "i"))

    def test_joined_sayings(self):
        x = ("ahead", "x", "end")
        put = ("ahead", 2, "end")
        self.assert_told(put_for, (("not", x), "x", 2), ("not", put))
        self.assert_told(put_for, (("and", (x, S, x)), "x", 2), ("and", (put, S, put)))
        self.assert_told(put_for, (("or", ()), "x", 2), ("or", ()))
        self.assert_told(put_for, (("if", x, ("or", (("not", x),))), "x", 2), ("if", put, ("or", (("not", put),))))

    def test_rows_and_numbers_so_called_stay(self):
        saying = ("most", at("x", "x", 1), ("x", 2))
        self.assert_told(put_for, (saying, "x", 0), ("most", at("x", 0, 1), ("x", 2)))
        self.assert_told(put_for, (("nexts", "x", "less"), "x", 0), ("nexts", "x", "less"))
        self.assert_told(put_for, (("nexts", "a", "less"), "x", 0), ("nexts", "a", "less"))
        both = ("and", (("nexts", "a", "more"), ("here", "x", "x")))
        self.assert_told(put_for, (both, "x", 0), ("and", (("nexts", "a", "more"), ("here", 0, 0))))
        self.assert_told(put_for, (("less", (None, 4), ("x", 0)), "x", 0), ("less", (None, 4), ("x", 0)))
        self.assert_told(put_for, (("nexts", "less", "less"), "less", 0), ("nexts", "less", "less"))

    def test_within_another_each_or_pairs(self):
        inner = ("most", at("a", "x"), at("a", "y"))
        self.assert_told(put_for, (("each", "y", inner), "x", 4), ("each", "y", ("most", at("a", 4), at("a", "y"))))
        self.assert_told(put_for, (("each", "x", inner), "x", 4), ("each", "x", inner))
        self.assert_told(put_for, (("pairs", "x", "y", inner), "x", 4), ("pairs", "x", "y", inner))
        self.assert_told(put_for, (("pairs", "y", "x", inner), "x", 4), ("pairs", "y", "x", inner))
        self.assert_told(
            put_for, (("pairs", "y", "z", inner), "x", "i"), ("pairs", "y", "z", ("most", at("a", "i"), at("a", "y")))
        )
        both = ("and", (("each", "x", inner), ("each", "z", inner), inner))
        put = ("most", at("a", 0), at("a", "y"))
        self.assert_told(put_for, (both, "x", 0), ("and", (("each", "x", inner), ("each", "z", put), put)))


class OpenedTest(FactsTest):
    def test_not(self):
        self.assert_parts((True, ("not", S)), (False, S))
        self.assert_parts((False, ("not", S)), (True, S))

    def test_and_or(self):
        self.assert_parts((True, ("and", (S, T, S))), (True, S), (True, T), (True, S))
        self.assert_parts((True, ("and", ())))
        self.assert_parts((False, ("or", (S, T))), (False, S), (False, T))
        self.assert_parts((False, ("or", ())))
        self.assert_cases((True, ("or", (S, T))), ((True, S),), ((True, T),))
        self.assert_cases((True, ("or", ())))
        self.assert_cases((False, ("and", (S, T, T))), ((False, S),), ((False, T),), ((False, T),))
        self.assert_cases((False, ("and", (S,))), ((False, S),))
        self.assert_cases((False, ("and", ())))

    def test_if(self):
        self.assert_parts((False, ("if", S, T)), (True, S), (False, T))
        self.assert_cases((True, ("if", S, T)), ((False, S),), ((True, T),))

    def test_same_and_unlike(self):
        for fact in ((True, ("same", A, B)), (False, ("unlike", A, B))):
            self.assert_parts(fact, (True, ("most", A, B)), (True, ("most", B, A)))
        for fact in ((False, ("same", A, B)), (True, ("unlike", A, B))):
            self.assert_cases(fact, ((True, ("less", A, B)),), ((True, ("less", B, A)),))

    def test_here(self):
        self.assert_cases((False, ("here", "i", 2)), ((True, ("ahead", "i", 2)),), ((True, ("ahead", 2, "i")),))
        self.assert_told(opened, ((True, ("here", "i", 2)), 3), None)

    def test_next(self):
        self.assert_parts((True, ("next", "i", "end")), (True, ("ahead", "i", "end")))
        for strange in (0, 1, 5):
            self.assert_cases(
                (False, ("next", "i", "j")),
                ((False, ("ahead", "i", "j")),),
                ((True, ("ahead", "i", strange)), (True, ("ahead", strange, "j"))),
                strange=strange,
            )

    def test_each(self):
        saying = ("each", "x", ("and", (("most", at("a", "x"), B), ("here", "x", "i"))))
        for strange in (0, 1, 5):
            self.assert_parts(
                (False, saying),
                (True, ("ahead", strange, "end")),
                (False, ("and", (("most", at("a", strange), B), ("here", strange, "i")))),
                strange=strange,
            )
        self.assert_told(opened, ((True, saying), 0), None)

    def test_pairs(self):
        saying = ("pairs", "y", "x", ("less", at("a", "x"), at("b", "y", 3)))
        for strange in (0, 1, 5):
            self.assert_parts(
                (False, saying),
                (True, ("ahead", strange, strange + 1)),
                (True, ("ahead", strange + 1, "end")),
                (False, ("less", at("a", strange + 1), at("b", strange, 3))),
                strange=strange,
            )
        self.assert_told(opened, ((True, saying), 0), None)

    def test_nexts(self):
        for strange in (0, 4):
            one, other = at("a", strange), at("a", strange + 1)
            said = {
                "most": ("most", one, other),
                "less": ("less", one, other),
                "same": ("same", one, other),
                "least": ("most", other, one),
                "more": ("less", other, one),
            }
            for word, third in said.items():
                self.assert_parts(
                    (False, ("nexts", "a", word)),
                    (True, ("ahead", strange, strange + 1)),
                    (True, ("ahead", strange + 1, "end")),
                    (False, third),
                    strange=strange,
                )
                self.assert_told(opened, ((True, ("nexts", "a", word)), strange), None)

    def test_what_opens_as_nothing(self):
        for truth in (True, False):
            for saying in (("most", A, B), ("less", A, B), ("ahead", "i", 0)):
                self.assert_told(opened, ((truth, saying), 1), None)
        for saying in (("here", "i", "i"), ("each", "x", S), ("pairs", "x", "y", S), ("nexts", "a", "same")):
            self.assert_told(opened, ((True, saying), 1), None)


class UsedTest(FactsTest):
    def test_each(self):
        fact = (True, ("each", "x", ("most", at("a", "x"), at("a", "i"))))
        for place in ("i", "end", 0, 7):
            told = (True, ("if", ("ahead", place, "end"), ("most", at("a", place), at("a", "i"))))
            self.assert_told(used, (fact, (place,)), told)
        for places in ((), ("i", "i"), (0, 1, 2)):
            self.assert_told(used, (fact, places), None)

    def test_pairs(self):
        fact = (True, ("pairs", "x", "y", ("if", ("here", "x", "i"), ("less", at("a", "y"), at("b", "x")))))
        for one, other in (("i", "j"), (0, 1), (1, 0), ("end", 3), (2, 2), ("end", "end")):
            in_order = ("and", (("ahead", one, other), ("ahead", other, "end")))
            said = ("if", ("here", one, "i"), ("less", at("a", other), at("b", one)))
            self.assert_told(used, (fact, (one, other)), (True, ("if", in_order, said)))
        for places in ((), ("i",), (0, 1, 2)):
            self.assert_told(used, (fact, places), None)

    def test_nexts(self):
        one, other = at("a", "i"), at("a", 2)
        said = {
            "most": ("most", one, other),
            "less": ("less", one, other),
            "same": ("same", one, other),
            "least": ("most", other, one),
            "more": ("less", other, one),
        }
        in_order = ("and", (("ahead", "i", 2), ("ahead", 2, "end")))
        for word, told in said.items():
            self.assert_told(used, ((True, ("nexts", "a", word)), ("i", 2)), (True, ("if", in_order, told)))
            for places in ((), ("i",), (0, 1, 2)):
                self.assert_told(used, ((True, ("nexts", "a", word)), places), None)

    def test_next(self):
        fact = (True, ("next", "i", "end"))
        for place in ("i", "j", "end", 0):
            told = (False, ("and", (("ahead", "i", place), ("ahead", place, "end"))))
            self.assert_told(used, (fact, (place,)), told)
        for places in ((), ("i", "j"), (0, 1, 2)):
            self.assert_told(used, (fact, places), None)

    def test_what_is_used_at_none(self):
        for places in ((), ("i",), (0,), ("i", "end"), (0, 1), (0, 1, 2)):
            for saying in (("each", "x", S), ("pairs", "x", "y", S), ("nexts", "a", "less"), ("next", "i", "j")):
                self.assert_told(used, ((False, saying), places), None)
            for truth in (True, False):
                for saying in (
                    ("most", A, B), ("less", A, B), ("same", A, B), ("unlike", A, B), ("ahead", "i", "j"), T,
                    ("not", ("each", "x", S)), ("and", (("each", "x", S),)), ("or", ()), ("if", S, T),
                ):
                    self.assert_told(used, ((truth, saying), places), None)


if __name__ == "__main__":
    unittest.main()
