import itertools
import random
import unittest

from eachplace.errors import EachError, NoText
from eachplace.sayings import is_saying
from eachplace.sayingtexts import read_saying, read_sum, show_saying, show_sum
from eachplace.sums import is_sum
from tests.helpers import GREAT, Asking, Maker, asked_twice, nested, odd_things, shape

CAST = (("a", "b"), ("i", "j"), ("c", "d"))
LONE = (("a",), (), ())
THIRTY = 10 ** 30 - 1

SUMS = {
    "0": (None, 0),
    "5": (None, 5),
    "-5": (None, -5),
    "10": (None, 10),
    "-100": (None, -100),
    "9" * 30: (None, THIRTY),
    "-" + "9" * 30: (None, -THIRTY),
    "c": ("c", 0),
    "d": ("d", 0),
    "c+5": ("c", 5),
    "c-5": ("c", -5),
    "c+10": ("c", 10),
    "d-" + "9" * 30: ("d", -THIRTY),
    "d+" + "9" * 30: ("d", THIRTY),
    "a.i": (("a", "i"), 0),
    "b.j": (("b", "j"), 0),
    "a.i+5": (("a", "i"), 5),
    "a.j-5": (("a", "j"), -5),
    "a.end": (("a", "end"), 0),
    "b.end+1": (("b", "end"), 1),
    "a.end-5": (("a", "end"), -5),
}
NO_SUMS = (
    "", " ", "+", "-", ".", "\n", "00", "05", "-05", "-0", "+0", "+5", "--5", "+-5", "-+5", "5+5", "5-5", "5+c", "-c", "5c", "c5",
    "5.", ".5", "5.i", "5 5", " 5", "5 ", "5\n", "\n5", "0x5", "5_0", "1e3", "1" + "0" * 30, "-1" + "0" * 30, "c+1" + "0" * 30,
    "a.i-1" + "0" * 30, "0" * 30, "1" * 4000,
    "c+0", "c-0", "c+05", "c-05", "c+00", "c+", "c-", "c++5", "c--5", "c+-5", "c-+5", "c+5+5", "c+5-5", "c +5", "c+ 5", "c 5",
    " c", "c ", "c\n", "c+5\n", "c+5 ", "c+d", "c+x", "+c", "cc", "C", "c.", ".c", "c.i", "(c)", "c+5.", "c+5_0", "c5+1",
    "a", "i", "e", "x", "end", "most", "a+5", "i-5", "end+1", "a.", ".i", "a..i", "a.i.", ".a.i", "a.i.j", "i.a", "a.a", "a.c", "a.b",
    "c.end", "end.end", "i.end", "e.i", "a.x", "a.End", "a.ends", "a.begin", "a .i", "a. i", " a.i", "a.i ", "a.i\n", "a,i", "a.5",
    "a.i+0", "a.i-0", "a.i+05", "a.i+", "a.i-", "a.i +5", "a.i+ 5", "a.i++5", "a.end+-5", "a+5.i", "a.i5", "A.i", "a.I",
)
SAYINGS = {
    "most a.i c+1": ("most", (("a", "i"), 0), ("c", 1)),
    "less 5 -5": ("less", (None, 5), (None, -5)),
    "same b.end-1 0": ("same", (("b", "end"), -1), (None, 0)),
    "unlike c d": ("unlike", ("c", 0), ("d", 0)),
    "ahead i end": ("ahead", "i", "end"),
    "here j i": ("here", "j", "i"),
    "next end end": ("next", "end", "end"),
    "not here i j": ("not", ("here", "i", "j")),
    "not not next i j": ("not", ("not", ("next", "i", "j"))),
    "if here i j here j i": ("if", ("here", "i", "j"), ("here", "j", "i")),
    "if not here i j if and ( ) here j i": (
        "if", ("not", ("here", "i", "j")), ("if", ("and", ()), ("here", "j", "i"))
    ),
    "and ( )": ("and", ()),
    "or ( )": ("or", ()),
    "and ( here i j )": ("and", (("here", "i", "j"),)),
    "and ( here i j here j i )": ("and", (("here", "i", "j"), ("here", "j", "i"))),
    "or ( and ( ) or ( ) not or ( ) )": ("or", (("and", ()), ("or", ()), ("not", ("or", ())))),
    "each x most a.x c+1": ("each", "x", ("most", (("a", "x"), 0), ("c", 1))),
    "each abcdefgh ahead abcdefgh end": ("each", "abcdefgh", ("ahead", "abcdefgh", "end")),
    "pairs x y less a.x a.y-3": ("pairs", "x", "y", ("less", (("a", "x"), 0), (("a", "y"), -3))),
    "pairs y x and ( ahead x y here i y )": (
        "pairs", "y", "x", ("and", (("ahead", "x", "y"), ("here", "i", "y")))
    ),
    "nexts a less": ("nexts", "a", "less"),
    "nexts b most": ("nexts", "b", "most"),
    "nexts a same": ("nexts", "a", "same"),
    "nexts a least": ("nexts", "a", "least"),
    "nexts a more": ("nexts", "a", "more"),
    "and ( nexts a less most c d )": ("and", (("nexts", "a", "less"), ("most", ("c", 0), ("d", 0)))),
}
NO_SAYINGS = (
    "", " ", "(", ")", "( )", "most", "most c", "most c d c", "most c d ", " most c d", "most  c d", "most c  d", "most c\nd",
    "most c d\n", "\nmost c d", "Most c d", "mos c d", "most c+0 d", "most c 05", "most c -0", "most c 1" + "0" * 30, "most c e",
    "most a c", "most i c", "most a.x c", "most ( c ) d", "most c, d", "most(c d)", "c", "5", "a.i", "i", "least c d", "more c d",
    "most less c d", "most most c", "less c d less c d", "( most c d )",
    "ahead i", "ahead", "ahead i j j", "ahead i x", "ahead a i", "ahead c i", "ahead i end end", "ahead end", "ahead i 0", "ahead i most",
    "here i.j", "next i", "next a b", "next i+1 j",
    "not", "not not", "not ( here i j )", "not here i", "not here i j here i j", "nothere i j", "not c", "not i",
    "if", "if here i j", "if here i j here j i here i j", "if here i j not", "if here i j here j", "if here i j ( here j i )",
    "and", "or", "and (", "or (", "and )", "and ()", "and ( ", "and (  )", "and ( ) )", "and ( ( ) )", "and ( here i j", "and here i j",
    "and here i j )", "and ( here i j ) here i j", "and ( here i j ) )", "and ( here i j) ", "and (here i j )", "and ( here i )",
    "and ( c )", "and ( and )", "or ( or ( )", "and [ ]", "or ( here i j , here i j )", "( and )",
    "each", "each x", "each x x", "each i here i j", "each a here i j", "each c here i j", "each end here i j", "each most here i j",
    "each X here i j", "each abcdefghi here i j", "each x y here x y", "each here i j", "each x here y i", "each x ( here x i )",
    "each x next x end", "each x nexts a less", "each x each y here x y", "each x pairs y z here x y", "each x and ( next i j )",
    "each x not not next i j", "each x most x c", "each x most x.i c", "each x most a.y c", "each 0 here i j", "each  here i j",
    "pairs x x here i j", "pairs x", "pairs x y", "pairs x here i j", "pairs x i here i j", "pairs i x here i j", "pairs x y z here i j",
    "pairs x y next x y", "pairs x y nexts a less", "pairs x y each z here i j", "pairs ( x y ) here x y", "pairs x end here i j",
    "and ( each x here x i here x i )", "if each x here x i here x i",
    "nexts", "nexts a", "nexts a less less", "nexts less a", "nexts c less", "nexts i less", "nexts a unlike", "nexts a ahead",
    "nexts a next", "nexts a here", "nexts a b", "nexts a.i less", "nexts a lesser", "nexts a 0",
)


class TextsTest(Asking, unittest.TestCase):
    def assert_read(self, right, function, text, cast=CAST):
        told = asked_twice(self, function, cast, text)
        self.assertEqual(shape(told), shape(right), text)

    def assert_refused(self, function, text, cast=CAST):
        with self.assertRaises(NoText) as caught:
            function(cast, text)
        self.assertIs(type(caught.exception), NoText)
        self.assertNotEqual(str(caught.exception), "")

    def test_sums_are_written(self):
        for text, one in SUMS.items():
            self.assertTrue(is_sum(CAST, one), one)
            self.assertEqual(asked_twice(self, show_sum, one), text)

    def test_sums_are_read(self):
        for text, one in SUMS.items():
            self.assert_read(one, read_sum, text)

    def test_no_sums_are_refused(self):
        for text in NO_SUMS:
            self.assert_refused(read_sum, text)

    def test_sums_of_bound_places_are_written(self):
        self.assertEqual(show_sum((("a", "x"), -7)), "a.x-7")

    def test_sums_are_of_this_cast(self):
        for text in ("c", "a.i", "b.end", "c+5"):
            self.assert_refused(read_sum, text, LONE)
        self.assert_read((("a", "end"), 1), read_sum, "a.end+1", LONE)
        self.assert_read((None, -1), read_sum, "-1", LONE)

    def test_all_figures_are_written(self):
        self.assertEqual(show_sum((None, GREAT)), "9" * 40)
        self.assertEqual(show_sum(("c", -GREAT)), "c-" + "9" * 40)
        self.assertEqual(show_sum((("a", "i"), GREAT)), "a.i+" + "9" * 40)
        self.assertEqual(show_saying(("most", (None, -GREAT), ("c", GREAT))), "most -" + "9" * 40 + " c+" + "9" * 40)

    def test_thirty_figures_are_the_most_read(self):
        for head in ("", "-", "c+", "c-", "a.i+", "a.end-"):
            text = head + "1" + "0" * 29
            self.assertEqual(show_sum(read_sum(CAST, text)), text)
            self.assertEqual(show_saying(read_saying(CAST, f"most {text} {text}")), f"most {text} {text}")
            self.assert_refused(read_sum, text + "0")
            self.assert_refused(read_saying, f"most {text} {text}0")
            self.assert_refused(read_saying, f"most {text}0 {text}")

    def test_sayings_are_written(self):
        for text, saying in SAYINGS.items():
            self.assertTrue(is_saying(CAST, saying), saying)
            self.assertEqual(asked_twice(self, show_saying, saying), text)

    def test_sayings_are_read(self):
        for text, saying in SAYINGS.items():
            self.assert_read(saying, read_saying, text)

    def test_no_sayings_are_refused(self):
        for text in NO_SAYINGS:
            self.assert_refused(read_saying, text)

    def test_sums_stand_in_sayings_as_alone(self):
        for text, one in SUMS.items():
            self.assert_read(("less", one, (None, 1)), read_saying, f"less {text} 1")
            self.assert_read(("less", (None, 1), one), read_saying, f"less 1 {text}")
        for text in NO_SUMS:
            self.assert_refused(read_saying, f"less {text} 1")
            self.assert_refused(read_saying, f"less 1 {text}")

    def test_words_in_a_names_stead(self):
        for word in ("most", "and", "each", "row", "put", "begin", "(", ")", ""):
            for text in (
                f"most {word} c", f"most a.{word} c", f"most {word}.i c", f"ahead {word} i", f"here i {word}", f"nexts {word} less",
                f"each {word} here i j", f"pairs x {word} here i j", f"pairs {word} x here i j",
            ):
                self.assert_refused(read_saying, text)

    def test_sayings_are_of_this_cast(self):
        for text in SAYINGS:
            if " i" in text or " c" in text or " b" in text or ".i" in text:
                self.assert_refused(read_saying, text, LONE)
        self.assert_read(("nexts", "a", "less"), read_saying, "nexts a less", LONE)
        self.assert_read(("each", "i", ("ahead", "i", "end")), read_saying, "each i ahead i end", LONE)

    def test_no_texts(self):
        for thing in odd_things() + [b"5", b"and ( )", ("and", ()), ["and ( )"], {"5": 5}, ("5",), (None, 5), 5]:
            self.assert_refused(read_sum, thing)
            self.assert_refused(read_saying, thing)

    def test_figures_of_other_alphabets(self):
        for text in ("\u0665", "\u00b2", "c+\u0665", "\uff15", "\u2460"):
            self.assert_refused(read_sum, text)
            self.assert_refused(read_saying, f"most {text} c")

    def test_deep_ones(self):
        for wrap in (lambda s: ("not", s), lambda s: ("and", (s,)), lambda s: ("if", ("or", ()), s), lambda s: ("if", s, s)):
            saying = nested(wrap, 8, ("here", "i", "j"))
            self.assert_read(saying, read_saying, show_saying(saying))
        for wrap in (lambda s: ("not", s), lambda s: ("or", (s,)), lambda s: ("if", ("or", ()), s), lambda s: ("if", s, ("and", ()))):
            saying = nested(wrap, 29, ("here", "i", "j"))
            self.assert_read(saying, read_saying, show_saying(saying))
            self.assert_refused(read_saying, show_saying(saying) + " )")
            self.assert_refused(read_saying, show_saying(saying)[:-1])

    def test_deep_texts_that_are_none(self):
        for text in ("not " * 999, "not " * 999 + "not", "and ( " * 600, "if " * 1333, "and ( " * 300 + ") " * 300, "each x " * 570):
            self.assert_refused(read_saying, text)

    def test_long_ones(self):
        saying = ("and", (("here", "i", "j"),) * 399)
        self.assert_read(saying, read_saying, show_saying(saying))

    def test_unlike_sums_are_shown_unlike(self):
        bases = [None, "c", "d", *itertools.product("ab", ("i", "j", "end"))]
        sums = list(itertools.product(bases, (0, 1, -1, 10, -10, 11)))
        self.assertEqual(len({show_sum(one) for one in sums}), len(sums))

    def test_made_ones_are_read_again_to_themselves(self):
        maker = Maker(CAST, "texts")
        shown = {}
        for _ in range(2000):
            saying = maker.saying(4)
            text = show_saying(saying)
            self.assertEqual(shown.setdefault(text, saying), saying)
            self.assert_read(saying, read_saying, text)

    def test_read_is_just_what_is_so_written(self):
        maker = Maker(CAST, "changed texts")
        dice = random.Random("changes")
        signs = " ()+-.0159abcdeijx\n"
        texts = list(SAYINGS) + [show_saying(maker.saying(3)) for _ in range(300)]
        words = ["most", "ahead", "next", "not", "and", "(", ")", "if", "each", "x", "nexts", "less", "a", "i", "c+1", "a.i", ""]
        for text in texts:
            for _ in range(20):
                at = dice.randrange(len(text) + 1)
                parts = text.split(" ")
                parts.insert(dice.randrange(len(parts) + 1), dice.choice(words))
                lesser = text.split(" ")
                del lesser[dice.randrange(len(lesser))]
                for near in (
                    text[:at] + dice.choice(signs) + text[at:], text[:at] + text[at + 1:],
                    text[:at] + dice.choice(signs) + text[at + 1:], " ".join(parts), " ".join(lesser),
                ):
                    self.assert_read_as_written(near)

    def assert_read_as_written(self, text):
        try:
            saying = read_saying(CAST, text)
        except EachError as refusal:
            self.assertIs(type(refusal), NoText)
        else:
            self.assertTrue(is_saying(CAST, saying), text)
            self.assertEqual(show_saying(saying), text)


if __name__ == "__main__":
    unittest.main()
