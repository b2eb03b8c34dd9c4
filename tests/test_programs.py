import unittest

from eachplace.programs import heads_of, is_program
from eachplace.sayingtexts import read_saying
from tests.helpers import Asking, ProgramMaker, asked_twice, nested, odd_things

CAST = (("a", "b"), ("i", "j"), ("c",))
YES = ("and", ())
SUMS = ((None, 0), (None, -5), ("c", 3), (("a", "i"), 0), (("b", "end"), 1))
PLAIN = ("most", ("c", 0), (("a", "i"), 1))
WIDE = tuple(
    read_saying(CAST, text)
    for text in ("each x most a.x c", "pairs x y less a.x a.y", "nexts a less", "next i j")
)


def program(*deeds, first=YES, last=YES, cast=CAST):
    return (cast, first, tuple(deeds), last)


def right_deeds():
    for spot in ("i", "j", "end"):
        for one in SUMS:
            yield ("put", "a", spot, one)
        for other in ("i", "j", "end"):
            yield ("swap", "b", spot, other)
        yield ("stand", "i", spot)
    for one in SUMS:
        yield ("set", "c", one)
    for place in ("i", "j"):
        yield ("begin", place)
        yield ("go", place)
    yield ("if", YES, (), ())
    yield ("if", PLAIN, (("go", "i"),), (("go", "j"), ("begin", "i")))
    yield ("while", YES, YES, ())
    yield ("while", ("ahead", "i", "end"), PLAIN, (("go", "i"),))
    for kept in WIDE:
        yield ("while", PLAIN, kept, ())


def wrong_parts():
    """For each sort of a part what is none."""
    odd = (None, True, 0, -1, "", "zz", "A", "x", "most", (), ("i",), ["i"], {}, ("a", "i"), ("c", 0, 0))
    return {
        "row": odd + ("i", "c", "end", (("a", "i"), 0)),
        "spot": odd + ("a", "c", ("i", 0)),
        "place": odd + ("a", "c", "end"),
        "number": odd + ("a", "i", "end", ("c", 0)),
        "sum": odd + (
            "a", "i", "c", 5, ["c", 0], ("c", True), (None, False), ("c", None), ("i", 0), ("a", 0), ("end", 0), (("a", "c"), 0), (("i", "a"), 0),
            (["a", "i"], 0), (("a", "x"), 0), (("c", "i"), 0), (("a", "i"),), (("a", "i", "i"), 0), ("d", 0),
        ),
    }


SORTS = {
    ("put", "a", "i", ("c", 0)): ("row", "spot", "sum"),
    ("swap", "a", "i", "j"): ("row", "spot", "spot"),
    ("set", "c", ("c", 1)): ("number", "sum"),
    ("stand", "i", "j"): ("place", "spot"),
    ("begin", "i"): ("place",),
    ("go", "i"): ("place",),
}


class IsProgramTest(Asking, unittest.TestCase):
    def test_each_deed(self):
        self.assert_yes(is_program, program())
        for deed in right_deeds():
            self.assert_yes(is_program, program(deed))
        self.assert_yes(is_program, program(*right_deeds()))

    def test_what_is_said_first_and_last(self):
        for saying in (YES, PLAIN) + WIDE:
            self.assert_yes(is_program, program(first=saying, last=saying))
        for wrong in (None, True, (), "and", ("and",), ("and", []), ["and", ()], ("most", ("c", 0), ("d", 0)), ("ahead", "i", "x")):
            self.assert_no(is_program, program(first=wrong))
            self.assert_no(is_program, program(last=wrong))
            self.assert_no(is_program, program(("while", YES, wrong, ())))

    def test_parts_of_another_sort(self):
        for deed, sorts in SORTS.items():
            self.assert_yes(is_program, program(deed))
            for at, sort in enumerate(sorts):
                for wrong in wrong_parts()[sort]:
                    self.assert_no(is_program, program(deed[:at + 1] + (wrong,) + deed[at + 2:]))

    def test_a_part_more_or_less(self):
        asking = (("if", PLAIN, (), ()), ("while", PLAIN, YES, ()))
        for deed in tuple(SORTS) + asking:
            self.assert_no(is_program, program(deed[:-1]))
            self.assert_no(is_program, program(deed[1:]))
            self.assert_no(is_program, program(deed[:1]))
            self.assert_no(is_program, program(deed + (deed[-1],)))
            self.assert_no(is_program, program(deed + (None,)))
            self.assert_no(is_program, program(deed + ((),)))
        whole = program(("go", "i"))
        self.assert_no(is_program, whole[:3])
        self.assert_no(is_program, whole + ((),))
        self.assert_no(is_program, whole[1:])

    def test_lists_in_the_stead_of_tuples(self):
        for deed in tuple(SORTS) + (("if", PLAIN, (), ()), ("while", PLAIN, YES, ())):
            self.assert_no(is_program, program(list(deed)))
        self.assert_no(is_program, list(program()))
        self.assert_no(is_program, (CAST, YES, [], YES))
        self.assert_no(is_program, (CAST, YES, [("go", "i")], YES))
        self.assert_no(is_program, (list(CAST), YES, (), YES))
        self.assert_no(is_program, ((["a"], (), ()), YES, (), YES))
        for deed in (("if", PLAIN, [], ()), ("if", PLAIN, (), []), ("while", PLAIN, YES, []), ("if", list(PLAIN), (), ()), ("while", YES, list(PLAIN), ())):
            self.assert_no(is_program, program(deed))
        self.assert_no(is_program, program(("if", PLAIN, (["go", "i"],), ())))

    def test_other_words(self):
        for word in ("go ", "Go", "", "end", "else", "stop", "changed", "exchanged", "moved", "and", "first", None, 0, True, (), ["go"], ("go",)):
            for deed in SORTS:
                self.assert_no(is_program, program((word,) + deed[1:]))
        self.assert_no(is_program, program(()))
        self.assert_no(is_program, program("go"))
        self.assert_no(is_program, program(None))

    def test_what_is_asked(self):
        for wide in WIDE:
            wholes = [wide, ("not", wide), ("and", (PLAIN, wide)), ("or", (wide, PLAIN)), ("if", wide, PLAIN), ("if", PLAIN, wide)]
            wholes.append(nested(lambda part: ("not", ("or", (PLAIN, part))), 5, wide))
            for saying in wholes:
                self.assert_no(is_program, program(("if", saying, (), ())))
                self.assert_no(is_program, program(("while", saying, YES, ())))
                self.assert_no(is_program, program(("while", YES, YES, (("if", YES, (), (("while", saying, YES, ()),)),))))
                self.assert_no(is_program, program(("if", YES, (("if", saying, (), ()),), ())))
                self.assert_yes(is_program, program(("while", PLAIN, saying, ()), first=saying, last=saying))
        for text in ("ahead i end", "not here i j", "and ( )", "or ( less c 0 same a.i b.j )", "if ahead i end unlike a.i c"):
            saying = read_saying(CAST, text)
            self.assert_yes(is_program, program(("if", saying, (), ()), ("while", saying, YES, ())))
        for wrong in (None, True, (), "and", ("and",), ("most", ("d", 0), ("c", 0)), ("most", ("c", True), ("c", 0))):
            self.assert_no(is_program, program(("if", wrong, (), ())))
            self.assert_no(is_program, program(("while", wrong, YES, ())))

    def test_blocks_within_one_another(self):
        inner = ("while", YES, YES, (("if", PLAIN, (), (("go", "i"),)),))
        for wrap in (lambda deed: ("if", YES, (deed,), ()), lambda deed: ("if", YES, (), (deed,)), lambda deed: ("while", YES, YES, (deed, deed))):
            self.assert_yes(is_program, program(nested(wrap, 4, inner)))
            self.assert_no(is_program, program(nested(wrap, 4, ("go", "end"))))
            self.assert_no(is_program, program(nested(wrap, 4, ("go", "c"))))

    def test_casts(self):
        lone = (("a",), (), ())
        self.assert_yes(is_program, (lone, YES, (("put", "a", "end", (None, 1)), ("swap", "a", "end", "end")), YES))
        for cast in ((), ((), (), ()), (("b", "a"), (), ()), (("a",), ("a",), ()), (("a",), ()), None):
            self.assert_no(is_program, (cast, YES, (), YES))
        self.assert_no(is_program, (lone, YES, (("go", "i"),), YES))

    def test_of_anything(self):
        for thing in odd_things():
            self.assert_no(is_program, thing)
            self.assert_no(is_program, program(thing))
            self.assert_no(is_program, (thing, YES, (), YES))
            self.assert_no(is_program, program(first=thing))
            self.assert_no(is_program, program(last=thing))
            self.assert_no(is_program, program(("put", "a", "i", thing)))
            if thing != ():
                self.assert_no(is_program, (CAST, YES, thing, YES))
                self.assert_no(is_program, program(("if", YES, thing, ())))
                self.assert_no(is_program, program(("while", YES, YES, thing)))
            self.assert_no(is_program, program(("while", thing, YES, ())))
        self.assert_yes(is_program, program(*[("go", "i")] * 4000))

    def test_made_ones(self):
        for seed in range(100):
            self.assert_yes(is_program, ProgramMaker(CAST, seed).program())


class HeadsTest(unittest.TestCase):
    def assert_heads(self, whole, heads):
        self.assertTrue(is_program(whole))
        told = asked_twice(self, heads_of, whole)
        self.assertIs(type(told), tuple)
        self.assertEqual(told, heads)

    def test_none(self):
        self.assert_heads(program(), ())
        self.assert_heads(program(("go", "i"), ("if", YES, (("go", "i"),), ())), ())

    def test_in_the_order_of_their_beginnings(self):
        def head(number, *deeds):
            return ("while", ("most", ("c", 0), (None, number)), YES, deeds)

        two, three, one = head(2), head(3), head(1, head(2), ("go", "i"), head(3))
        self.assert_heads(program(one), (one, two, three))
        self.assert_heads(program(head(0), one, head(4)), (head(0), one, two, three, head(4)))
        inner = ("if", YES, (head(5), head(6)), (head(7),))
        self.assert_heads(program(head(4, inner), head(8)), (head(4, inner), head(5), head(6), head(7), head(8)))
        deep = head(1, head(2, head(3, head(4))))
        self.assert_heads(program(deep), (deep, deep[3][0], deep[3][0][3][0], head(4)))

    def test_alike_ones(self):
        one = ("while", YES, YES, ())
        self.assert_heads(program(one, one), (one, one))
        outer = ("while", YES, YES, (one, one))
        self.assert_heads(program(("if", YES, (outer,), (outer, one))), (outer, one, one, outer, one, one, one))


if __name__ == "__main__":
    unittest.main()
