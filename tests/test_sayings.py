import unittest

from eachplace.sayings import atoms_in, is_saying, needed
from tests.helpers import GREAT, Asking, Maker, nested, odd_things

CAST = (("a", "b"), ("i", "j"), ("c", "d"))
LONE = (("a",), (), ())
YES = ("and", ())
ATOMS = (
    ("most", (("a", "i"), 0), ("c", 1)),
    ("less", (None, 0), (("b", "end"), -1)),
    ("same", ("c", 0), ("d", 0)),
    ("unlike", (("a", "i"), 0), (("a", "j"), 0)),
    ("ahead", "i", "end"),
    ("here", "j", "i"),
)
OUTER = (
    ("next", "i", "j"),
    ("nexts", "a", "less"),
    ("each", "x", ("most", (("a", "x"), 0), ("c", 0))),
    ("pairs", "x", "y", ("less", (("a", "x"), 0), (("a", "y"), 0))),
)
NO_PLACES = ("a", "c", "z", "", "ends", "begin", "next", None, True, False, 0, 1, ("i",), ["i"], {"i": 1}, b"i")
NO_SUMS = (
    None, 0, "c", "i", "c+1", (), (None,), ("c",), (None, 0, 0), ["c", 0], {"c": 0}, ("c", True), (None, False),
    ("a", 0), ("i", 0), ("e", 0), (("a", "z"), 0), (("c", "i"), 0), (("a", "b"), 0), (["a", "i"], 0), (("a", "i"), None),
)


def around(saying):
    """The saying within each word that may have any saying in it."""
    return (
        ("not", saying), ("and", (saying,)), ("or", (saying,)), ("and", (YES, saying, YES)), ("or", (YES, YES, saying)),
        ("if", saying, YES), ("if", YES, saying), ("not", ("if", ("or", (saying,)), YES)),
    )


def bound_around(saying):
    return (("each", "x", saying), ("pairs", "x", "y", saying))


class IsSayingTest(Asking, unittest.TestCase):
    def assert_nowhere(self, thing):
        """No saying, alone or within another one."""
        self.assert_no(is_saying, CAST, thing)
        for outer in around(thing) + bound_around(thing):
            self.assert_no(is_saying, CAST, outer)

    def test_each_word_right(self):
        for saying in ATOMS + OUTER:
            self.assert_yes(is_saying, CAST, saying)
            for outer in around(saying):
                self.assert_yes(is_saying, CAST, outer)

    def test_unknown_words(self):
        sums = (("c", 0), ("d", 0))
        for word in ("least", "more", "end", "row", "", "Most", "most ", "mos", "c", None, True, 0, ("most",), ["most"], {}):
            self.assert_nowhere((word, *sums))
            self.assert_nowhere((word, "i", "j"))
            self.assert_nowhere((word, YES))
            self.assert_nowhere((word,))

    def test_between_sums(self):
        for word in ("most", "less", "same", "unlike"):
            right = (("a", "i"), 5)
            self.assert_yes(is_saying, CAST, (word, right, right))
            for wrong in NO_SUMS:
                self.assert_nowhere((word, wrong, right))
                self.assert_nowhere((word, right, wrong))
            # Within an each or pairs x may stand for a place.
            self.assert_no(is_saying, CAST, (word, (("a", "x"), 0), right))
            self.assert_no(is_saying, CAST, (word, right, (("a", "x"), 0)))
            for thing in ((word,), (word, right), (word, right, right, right), [word, right, right], (word, (right, right))):
                self.assert_nowhere(thing)

    def test_between_places(self):
        for word in ("ahead", "here", "next"):
            for one in ("i", "j", "end"):
                for other in ("i", "j", "end"):
                    self.assert_yes(is_saying, CAST, (word, one, other))
            for wrong in NO_PLACES:
                self.assert_nowhere((word, wrong, "i"))
                self.assert_nowhere((word, "i", wrong))
            # Within an each or pairs x may stand for a place.
            self.assert_no(is_saying, CAST, (word, "x", "i"))
            self.assert_no(is_saying, CAST, (word, "i", "x"))
            for thing in ((word,), (word, "i"), (word, "i", "j", "i"), [word, "i", "j"], (word, ("i", "j"))):
                self.assert_nowhere(thing)
        self.assert_yes(is_saying, LONE, ("next", "end", "end"))
        self.assert_no(is_saying, LONE, ("ahead", "i", "end"))

    def test_not(self):
        self.assert_yes(is_saying, CAST, ("not", YES))
        for thing in (("not",), ("not", YES, YES), ("not", (YES,)), ["not", YES], ("not", list(YES)), ("not", None), {"not": YES}):
            self.assert_nowhere(thing)

    def test_and_and_or(self):
        for word in ("and", "or"):
            for parts in ((), (YES,), (YES, YES), ATOMS, ATOMS + OUTER, ATOMS * 500):
                self.assert_yes(is_saying, CAST, (word, parts))
            for parts in (None, [], {}, "", 0, True, [YES], {0: YES}, YES, ATOMS[0], (None,), ((),), (YES, []), ATOMS * 500 + ("i",)):
                self.assert_nowhere((word, parts))
            for thing in ((word,), (word, YES, YES), (word, (YES,), (YES,)), (word, (), ()), [word, ()], (word, YES)):
                self.assert_nowhere(thing)

    def test_if(self):
        self.assert_yes(is_saying, CAST, ("if", YES, YES))
        for thing in (
            ("if",), ("if", YES), ("if", YES, YES, YES), ("if", (YES, YES)), ["if", YES, YES], ("if", list(YES), YES),
            ("if", YES, list(YES)), ("if", None, YES), ("if", YES, None), ("if", YES, "i"),
        ):
            self.assert_nowhere(thing)

    def test_nexts(self):
        for row in ("a", "b"):
            for word in ("most", "less", "same", "least", "more"):
                self.assert_yes(is_saying, CAST, ("nexts", row, word))
        for row in ("c", "i", "e", "end", "", None, True, 0, ("a",), ["a"], {"a": 1}):
            self.assert_nowhere(("nexts", row, "less"))
        for word in ("unlike", "ahead", "here", "next", "a", "", "lest", None, True, 0, ("less",), ["less"], {"less": 1}):
            self.assert_nowhere(("nexts", "a", word))
        for thing in (("nexts",), ("nexts", "a"), ("nexts", "a", "less", "less"), ["nexts", "a", "less"], ("nexts", "less", "a")):
            self.assert_nowhere(thing)

    def test_each(self):
        for name in ("x", "y", "abcdefgh", "aa", "ends", "e"):
            inner = ("and", (("most", (("a", name), 0), (("b", "i"), 0)), ("ahead", name, "end"), ("here", "j", name)))
            self.assert_yes(is_saying, CAST, ("each", name, inner))
            self.assert_yes(is_saying, CAST, ("each", name, YES))
        for name in ("a", "b", "i", "j", "c", "d", "end", "most", "", "X", "abcdefghi", None, True, 0, ("x",), ["x"], {"x": 1}):
            self.assert_nowhere(("each", name, YES))
        for thing in (
            ("each",), ("each", "x"), ("each", YES), ("each", "x", YES, YES), ["each", "x", YES], ("each", "x", list(YES)),
            ("each", "x", "y", YES), ("each", ("x",), YES), ("each", "x", None), ("each", "x", (YES,)),
        ):
            self.assert_nowhere(thing)

    def test_pairs(self):
        inner = ("and", (("most", (("a", "x"), 0), (("b", "y"), 0)), ("ahead", "x", "y"), ("here", "j", "y")))
        self.assert_yes(is_saying, CAST, ("pairs", "x", "y", inner))
        self.assert_yes(is_saying, CAST, ("pairs", "y", "x", inner))
        for name in ("a", "b", "i", "j", "c", "d", "end", "most", "", "X", "abcdefghi", None, True, 0, ("y",), ["y"], {"y": 1}):
            self.assert_nowhere(("pairs", name, "x", YES))
            self.assert_nowhere(("pairs", "x", name, YES))
        for thing in (
            ("pairs", "x", "x", YES), ("pairs", "x", "y"), ("pairs", "x", YES), ("pairs", "x", "y", YES, YES), ("pairs",),
            ["pairs", "x", "y", YES], ("pairs", "x", "y", list(YES)), ("pairs", ("x", "y"), YES), ("pairs", "x", "y", "z", YES),
        ):
            self.assert_nowhere(thing)

    def test_bound_names_are_places_alone(self):
        for wrong in (
            ("most", ("x", 0), ("c", 0)), ("most", (("x", "i"), 0), ("c", 0)), ("most", (("x", "x"), 0), ("c", 0)),
            ("ahead", "x", "z"), ("here", "z", "x"), ("same", (("a", "z"), 0), ("c", 0)), ("ahead", "x", "a"),
        ):
            for outer in bound_around(wrong):
                self.assert_no(is_saying, CAST, outer)

    def test_bound_names_stand_within_alone(self):
        using = ("ahead", "x", "end")
        self.assert_yes(is_saying, CAST, ("each", "x", using))
        self.assert_no(is_saying, CAST, ("and", (("each", "x", using), using)))
        self.assert_no(is_saying, CAST, ("and", (using, ("each", "x", using))))
        self.assert_no(is_saying, CAST, ("if", ("each", "x", using), ("each", "y", using)))
        self.assert_no(is_saying, CAST, ("each", "y", using))
        self.assert_yes(is_saying, CAST, ("and", (("each", "x", using), ("each", "x", using), ("pairs", "y", "x", using))))

    def test_nothing_outer_within_each_and_pairs(self):
        for inner in (
            ("next", "i", "j"), ("next", "x", "end"), ("nexts", "a", "less"), ("each", "z", YES),
            ("each", "z", ("ahead", "z", "x")), ("pairs", "v", "w", YES), ("each", "x", YES), ("pairs", "x", "y", YES),
        ):
            for outer in bound_around(inner):
                self.assert_no(is_saying, CAST, outer)
            for between in around(inner):
                for outer in bound_around(between):
                    self.assert_no(is_saying, CAST, outer)

    def test_all_else_within_each_and_pairs(self):
        for inner in ATOMS:
            for between in (inner, *around(inner)):
                for outer in bound_around(between):
                    self.assert_yes(is_saying, CAST, outer)

    def test_deep_ones(self):
        for core in ATOMS + OUTER:
            self.assert_yes(is_saying, CAST, nested(lambda s: ("not", s), 13, core))
        self.assert_yes(is_saying, CAST, nested(lambda s: ("not", s), 27, ATOMS[0]))
        self.assert_yes(is_saying, CAST, nested(lambda s: ("and", (s,)), 13, ATOMS[0]))
        self.assert_yes(is_saying, CAST, nested(lambda s: ("if", s, YES), 27, ATOMS[0]))
        self.assert_yes(is_saying, CAST, nested(lambda s: ("or", (s, s)), 10, ATOMS[4]))
        self.assert_yes(is_saying, CAST, ("each", "x", nested(lambda s: ("not", s), 26, ("here", "x", "i"))))
        self.assert_no(is_saying, CAST, nested(lambda s: ("not", s), 27, ("most", ("c", 0), ("c", True))))
        self.assert_no(is_saying, CAST, nested(lambda s: ("not", s), 27, ["here", "i", "j"]))
        self.assert_no(is_saying, CAST, ("each", "x", nested(lambda s: ("not", s), 26, ("next", "x", "i"))))

    def test_numbers_of_forty_figures(self):
        self.assert_yes(is_saying, CAST, ("most", ("c", GREAT), (None, -GREAT)))

    def test_great_casts(self):
        cast = (tuple("abcde"), tuple("ijklmn"), tuple("opqrs"))
        self.assert_yes(is_saying, cast, ("most", (("e", "n"), 0), ("s", 0)))

    def test_of_anything(self):
        for thing in odd_things():
            self.assert_nowhere(thing)
            self.assert_no(is_saying, CAST, ("most", thing, ("c", 0)))
            self.assert_no(is_saying, CAST, ("each", "x", thing))
            self.assert_no(is_saying, CAST, (thing, "x", YES))

    def test_made_ones(self):
        maker = Maker(CAST, "sayings")
        for _ in range(300):
            self.assert_yes(is_saying, CAST, maker.saying(5))

    def test_nothing_is_one_of_what_is_no_cast(self):
        for cast in (None, (), [["a"], ["i"], ["c"]], ((), (), ())):
            self.assert_no(is_saying, cast, YES)


class CountsTest(Asking, unittest.TestCase):
    def test_atoms(self):
        for saying in ATOMS + OUTER:
            self.assert_whole(1, atoms_in, saying)
            self.assert_whole(2, atoms_in, ("if", saying, saying))
            self.assert_whole(3, atoms_in, ("or", (saying, ("not", saying), saying)))
        for saying in (YES, ("or", ()), ("not", YES), ("if", YES, YES), ("each", "x", YES), ("pairs", "x", "y", YES)):
            self.assert_whole(0, atoms_in, saying)
        self.assert_whole(10, atoms_in, ("and", ATOMS + OUTER))
        self.assert_whole(6, atoms_in, ("each", "x", ("and", ATOMS)))
        self.assert_whole(6, atoms_in, ("pairs", "x", "y", ("or", ATOMS)))
        self.assert_whole(60, atoms_in, ("and", ATOMS * 10))

    def test_needed_of_what_is_not_to_be_so(self):
        for saying, brought in zip(OUTER, (1, 2, 1, 2)):
            self.assert_whole(2 + brought, needed, CAST, saying)
            self.assert_whole(2, needed, CAST, ("not", saying))
            self.assert_whole(2 + brought, needed, CAST, ("not", ("not", saying)))
            self.assert_whole(2 + brought, needed, CAST, ("and", (saying,)))
            self.assert_whole(2 + brought, needed, CAST, ("or", (saying,)))
            self.assert_whole(2, needed, CAST, ("if", saying, YES))
            self.assert_whole(2 + brought, needed, CAST, ("if", YES, saying))
            self.assert_whole(2 + brought, needed, CAST, ("if", ("not", saying), YES))
            self.assert_whole(2 + brought, needed, CAST, ("not", ("if", saying, YES)))
            self.assert_whole(2, needed, CAST, ("not", ("if", YES, saying)))
            self.assert_whole(2, needed, CAST, ("not", ("and", (saying, saying))))
            self.assert_whole(2 + 3 * brought, needed, CAST, ("or", (saying, saying, saying)))
            self.assert_whole(2 + brought, needed, CAST, ("if", ("if", saying, YES), YES))

    def test_needed_of_other_atoms(self):
        for saying in ATOMS:
            self.assert_whole(2, needed, CAST, saying)
            self.assert_whole(2, needed, CAST, ("not", saying))
            self.assert_whole(3, needed, CAST, ("each", "x", saying))
            self.assert_whole(4, needed, CAST, ("pairs", "x", "y", ("not", saying)))

    def test_needed_counts_the_casts_places(self):
        self.assert_whole(0, needed, LONE, YES)
        self.assert_whole(1, needed, LONE, ("each", "x", YES))
        self.assert_whole(4, needed, (("a",), ("i", "j", "k", "l"), ()), YES)
        self.assert_whole(2, needed, CAST, ("or", ()))

    def test_needed_of_all_together(self):
        self.assert_whole(8, needed, CAST, ("and", OUTER))
        self.assert_whole(8, needed, CAST, ("or", (OUTER[0], ("if", ("not", OUTER[1]), OUTER[2]), ("not", ("not", OUTER[3])))))


if __name__ == "__main__":
    unittest.main()
