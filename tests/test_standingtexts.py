import itertools
import unittest

from eachplace.casts import is_cast
from eachplace.errors import EachError, NoText
from eachplace.standings import is_standing
from eachplace.standingtexts import read_cast, read_standing, show_cast, show_standing
from tests.helpers import GREAT, Maker, asked_twice, odd_things, shape

CASTS = {
    "row a b place i number c d": (("a", "b"), ("i",), ("c", "d")),
    "row a place number": (("a",), (), ()),
    "row a place i number": (("a",), ("i",), ()),
    "row a place number c": (("a",), (), ("c",)),
    "row a aa ab b place number": (("a", "aa", "ab", "b"), (), ()),
    "row rows place places number numbers": (("rows",), ("places",), ("numbers",)),
    "row abcdefgh place a number z": (("abcdefgh",), ("a",), ("z",)),
    "row b c d e f place g h i j k number l m n o p": (tuple("bcdef"), tuple("ghijk"), tuple("lmnop")),
}
NO_CASTS = (
    "", " ", "row", "row a", "row place number", "row  place number", "row place i number c", "place number", "row a place",
    "row a number", "row a number c", "row a number c place i", "place i row a number c", "row b a place number",
    "row a a place number", "row a b place j i number", "row a place i i number", "row a place number d c", "row a place number c c",
    "row a place a number", "row a place number a", "row a place i number i", "row end place number", "row a place end number",
    "row a place most number", "row a place number swap", "row a place row number", "row row place number",
    "row a place number number", "row a place number place", "row a place place number", "row a place number row", "row row a place number",
    "row  a place number", "row a  place number", "row a place  number", " row a place number", "row a place number ",
    "row a place number\n", "\nrow a place number", "row a\nplace number", "Row a place number", "row A place number", "row a place number c ",
    "row a1 place number", "row a_b place number", "row abcdefghi place number", "row a place number 5", "row a, b place number",
    "x row a place number", "a row place number", "row a place number / c", "row a place i number c row b place j number d",
    "row a place number place i number c", "rows a place number", "row a places number", "row a place numbers", "row a place i numbers c",
)
CAST = (("a", "b"), ("i", "j"), ("c",))
LONE = (("a",), (), ())
THIRTY = 10 ** 30 - 1
STANDINGS = (
    (CAST, "a 1 -2 3 / b 0 0 5 / i 3 / j 0 / c 17", (((1, -2, 3), (0, 0, 5)), (3, 0), (17,))),
    (CAST, "a / b / i 0 / j 0 / c 0", (((), ()), (0, 0), (0,))),
    (CAST, "a 0 / b -10 / i 1 / j 0 / c -" + "9" * 30, (((0,), (-10,)), (1, 0), (-THIRTY,))),
    (CAST, "a " + "9" * 30 + " / b 1 / i 0 / j 1 / c 100", (((THIRTY,), (1,)), (0, 1), (100,))),
    (LONE, "a", (((),), (), ())),
    (LONE, "a 5", (((5,),), (), ())),
    (LONE, "a -1 0 -1", (((-1, 0, -1),), (), ())),
    (LONE, "a" + " 7" * 40, (((7,) * 40,), (), ())),
    ((("b", "c"), (), ("a",)), "b 1 / c 2 / a 3", (((1,), (2,)), (), (3,))),
    ((("b",), ("a",), ()), "b 1 / a 1", (((1,),), (1,), ())),
)
NO_STANDINGS = (
    "", " ", "/", " / ", "a", "a 1 / b 2 / i 0 / j 0", "a 1 / b 2 / i 0 / j 0 / c 1 / d 1", "a 1 / b 2 / i 0 / j 0 / c 1 / ",
    "a 1 / b 2 / i 0 / j 0 / c 1 /", " / a 1 / b 2 / i 0 / j 0 / c 1", "b 2 / a 1 / i 0 / j 0 / c 1", "a 1 / b 2 / j 0 / i 0 / c 1",
    "a 1 / b 2 / c 1 / i 0 / j 0", "i 0 / j 0 / a 1 / b 2 / c 1", "a 1 / a 1 / i 0 / j 0 / c 1", "a 1 / b 2 / i 0 / i 0 / c 1",
    "a 1 / b 2 / i 0 / j 0 / c 1 / c 1", "a 1 / i 0 / j 0 / c 1", "a 1 / x 2 / i 0 / j 0 / c 1", "a 1 / end 2 / i 0 / j 0 / c 1",
    "a 1 / b 2 / i 0 / j 0 / c", "a 1 / b 2 / i / j 0 / c 1", "a 1 / b 2 / i 0 / j 0 / c 1 1", "a 1 / b 2 / i 0 0 / j 0 / c 1",
    "a 1  / b 2 / i 0 / j 0 / c 1", "a 1 /  b 2 / i 0 / j 0 / c 1", "a  1 / b 2 / i 0 / j 0 / c 1", " a 1 / b 2 / i 0 / j 0 / c 1",
    "a 1 / b 2 / i 0 / j 0 / c 1 ", "a 1 / b 2 / i 0 / j 0 / c 1\n", "a 1/ b 2 / i 0 / j 0 / c 1", "a 1 /b 2 / i 0 / j 0 / c 1",
    "a 1 / b 2 / i 0 / j 0 / c  1", "a 1\n/ b 2 / i 0 / j 0 / c 1", "a 1 / b 2 / i 0 / j 0 // c 1", "a 1 / / b 2 / i 0 / j 0 / c 1",
    "a 01 / b 2 / i 0 / j 0 / c 1", "a 1 / b 2 / i 00 / j 0 / c 1", "a 1 / b 2 / i 01 / j 0 / c 1", "a 1 / b 2 / i 0 / j 0 / c 01",
    "a -0 / b 2 / i 0 / j 0 / c 1", "a 1 / b 2 / i -0 / j 0 / c 1", "a 1 / b 2 / i 0 / j 0 / c -0", "a +1 / b 2 / i 0 / j 0 / c 1",
    "a 1 / b 2 / i 0 / j 0 / c 1" + "0" * 30, "a 1" + "0" * 30 + " / b 2 / i 0 / j 0 / c 1", "a -1" + "0" * 30 + " / b 2 / i 0 / j 0 / c 1",
    "a 1 / b 2 / i 2 / j 0 / c 1", "a 1 / b 2 / i 0 / j -1 / c 1", "a 1 / b 2 / i 1" + "0" * 30 + " / j 0 / c 1", "a / b / i 1 / j 0 / c 1",
    "a 1 / b / i 0 / j 0 / c 1", "a / b 2 / i 0 / j 0 / c 1", "a 1 2 / b 2 / i 0 / j 0 / c 1", "a 1 / b 2 2 / i 1 / j 2 / c 1",
    "a 1 / b 2 / i end / j 0 / c 1", "a x / b 2 / i 0 / j 0 / c 1", "a 1 / b 2 / i 0 / j 0 / c c", "a 1.0 / b 2 / i 0 / j 0 / c 1",
    "a 1 / b 2 / i 0 / j 0 / c 1e3", "a 1_0 / b 2 / i 0 / j 0 / c 1", "A 1 / b 2 / i 0 / j 0 / c 1", "a: 1 / b 2 / i 0 / j 0 / c 1",
    "a 1 , b 2 , i 0 , j 0 , c 1", "a1 / b 2 / i 0 / j 0 / c 1", "a 1 b 2 i 0 j 0 c 1", "row a 1 / b 2 / i 0 / j 0 / c 1",
    "a 1 / b 2 / i 0 / j 0 / most 1", "a 1 / b 2 / place 0 / j 0 / c 1",
)


class CastTextTest(unittest.TestCase):
    def test_each_is_written_and_read_so(self):
        for text, cast in CASTS.items():
            self.assertTrue(is_cast(cast))
            self.assertEqual(asked_twice(self, show_cast, cast), text)
            self.assertEqual(shape(asked_twice(self, read_cast, text)), shape(cast))

    def test_what_is_nearly_one_is_refused(self):
        for text in NO_CASTS:
            with self.assertRaises(NoText, msg=text):
                read_cast(text)

    def test_of_anything(self):
        for thing in odd_things():
            with self.assertRaises(NoText) as caught:
                read_cast(thing)
            self.assertIsInstance(caught.exception, EachError)
        for cast in CASTS.values():
            with self.assertRaises(NoText):
                read_cast(cast)

    def test_small_changes_of_a_text_are_refused_or_other_casts(self):
        text = "row a b place i number c"
        for at, sign in itertools.product(range(len(text)), " a/\n5~"):
            for other in (text[:at] + sign + text[at:], text[:at] + sign + text[at + 1:], text[:at] + text[at + 1:]):
                try:
                    cast = read_cast(other)
                except NoText:
                    continue
                self.assertTrue(is_cast(cast))
                self.assertEqual(show_cast(cast), other)


class StandingTextTest(unittest.TestCase):
    def test_each_is_written_and_read_so(self):
        for cast, text, standing in STANDINGS:
            self.assertTrue(is_standing(cast, standing))
            self.assertEqual(asked_twice(self, show_standing, cast, standing), text)
            self.assertEqual(shape(asked_twice(self, read_standing, cast, text)), shape(standing))

    def test_what_is_nearly_one_is_refused(self):
        self.assertIsNotNone(read_standing(CAST, "a 1 / b 2 / i 0 / j 0 / c 1"))
        for text in NO_STANDINGS:
            with self.assertRaises(NoText, msg=text):
                read_standing(CAST, text)
        for text in ("", " ", "a ", " a", "a /", "a / ", "b", "a / a", "a  1", "a 1 / i 0", "a 5 / ", "a\n"):
            with self.assertRaises(NoText, msg=text):
                read_standing(LONE, text)

    def test_of_anything(self):
        for thing in odd_things():
            with self.assertRaises(NoText) as caught:
                read_standing(CAST, thing)
            self.assertIsInstance(caught.exception, EachError)
        for cast, text, standing in STANDINGS:
            with self.assertRaises(NoText):
                read_standing(cast, standing)

    def test_all_figures_are_written_but_at_most_thirty_read(self):
        standing = (((GREAT, -GREAT),), (), ())
        text = "a " + "9" * 40 + " -" + "9" * 40
        self.assertEqual(show_standing(LONE, standing), text)
        with self.assertRaises(NoText):
            read_standing(LONE, text)
        self.assertEqual(read_standing(LONE, "a -" + "9" * 30), (((-THIRTY,),), (), ()))

    def test_a_place_at_the_length(self):
        cast = (("a",), ("i",), ())
        self.assertEqual(read_standing(cast, "a 4 4 / i 2"), (((4, 4),), (2,), ()))
        for text in ("a 4 4 / i 3", "a 4 4 / i -1", "a / i 1"):
            with self.assertRaises(NoText):
                read_standing(cast, text)

    def test_many_go_there_and_back(self):
        maker = Maker(CAST, 6)
        for length in range(41):
            standing = maker.standing(length)
            self.assertEqual(read_standing(CAST, show_standing(CAST, standing)), standing)


if __name__ == "__main__":
    unittest.main()
