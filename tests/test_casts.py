import string
import unittest

from eachplace.casts import is_cast
from tests.helpers import Asking, odd_things

LETTERS = string.ascii_lowercase


class CastsTest(Asking, unittest.TestCase):
    def test_ordinary(self):
        for cast in (
            (("a",), ("i",), ("c",)),
            (("a", "b"), ("i", "j", "k"), ("c", "d")),
            (("z",), ("y",), ("x",)),
            (("a", "aa", "ab", "b"), ("ba",), ("c",)),
        ):
            self.assert_yes(is_cast, cast)

    def test_one_row_and_nothing_else(self):
        self.assert_yes(is_cast, (("a",), (), ()))

    def test_one_row_at_least(self):
        for cast in (((), (), ()), ((), ("i",), ()), ((), (), ("c",)), ((), ("i",), ("c",))):
            self.assert_no(is_cast, cast)

    def test_empty_parts(self):
        self.assert_yes(is_cast, (("a",), ("i",), ()))
        self.assert_yes(is_cast, (("a",), (), ("c",)))

    def test_alike_or_not_rising(self):
        for names in (("a", "a"), ("b", "a"), ("a", "c", "b"), ("a", "b", "b"), ("b", "a", "c"), ("aa", "a")):
            self.assert_no(is_cast, (names, (), ()))
            self.assert_no(is_cast, (("x",), names, ()))
            self.assert_no(is_cast, (("x",), (), names))

    def test_by_the_alphabet(self):
        for names in (("a", "aa"), ("az", "b"), ("abc", "abd"), ("aaaaaaaa", "b")):
            self.assert_yes(is_cast, (names, (), ()))
        self.assert_no(is_cast, (("b", "az"), (), ()))

    def test_in_two_of_the_three(self):
        for cast in (
            (("a",), ("a",), ()),
            (("a",), (), ("a",)),
            (("a",), ("i",), ("i",)),
            (("a", "b"), ("b", "c"), ()),
            (("a", "b"), ("i",), ("b", "c")),
            (("a",), ("b", "i"), ("c", "i")),
            (("a",), ("a",), ("a",)),
        ):
            self.assert_no(is_cast, cast)

    def test_names_that_are_none(self):
        for name in ("end", "most", "", "A", "abcdefghi", "a1", "a ", None, True, 1, ("a",), ["a"], {"a": 1}, b"a"):
            self.assert_no(is_cast, ((name,), (), ()))
            self.assert_no(is_cast, (("a",), (name,), ()))
            self.assert_no(is_cast, (("a",), (), (name,)))
            self.assert_no(is_cast, (("a", name), (), ()))

    def test_lists_dicts_and_texts_in_a_tuples_stead(self):
        right = (("a",), ("i",), ("c",))
        self.assert_no(is_cast, list(right))
        for at in range(3):
            for stead in (list(right[at]), {right[at][0]: True}, right[at][0], None, True, 0, b"a"):
                self.assert_no(is_cast, right[:at] + (stead,) + right[at + 1:])

    def test_a_part_more_or_less(self):
        self.assert_no(is_cast, (("a",), ("i",)))
        self.assert_no(is_cast, (("a",),))
        self.assert_no(is_cast, (("a",), ("i",), ("c",), ()))
        self.assert_no(is_cast, (("a",), ("i",), ("c",), ("d",)))

    def test_of_any_size(self):
        self.assert_yes(is_cast, (tuple("abcde"), tuple("fghijk"), tuple("lmnopqr")))
        many = ["n" + a + b + c + d for a in "abcdefg" for b in LETTERS for c in LETTERS for d in "abcd"]
        self.assertEqual(len(many), 18928)
        self.assert_yes(is_cast, (("a",), tuple(many), ()))
        self.assert_yes(is_cast, (tuple(many[:6000]), tuple(many[6000:12000]), tuple(many[12000:])))
        self.assert_no(is_cast, (tuple(many[:9000]), (), tuple(many[8999:])))
        self.assert_no(is_cast, (tuple(many[:6000]), tuple(many[6000:12000]), tuple(many[12000:]) + ("a",)))

    def test_of_anything(self):
        for thing in odd_things():
            self.assert_no(is_cast, thing)
            self.assert_no(is_cast, (thing, (), ()))
            self.assert_no(is_cast, ((thing,), (), ()))
            if thing != ():
                self.assert_no(is_cast, (("a",), thing, ()))
                self.assert_no(is_cast, (("a",), (), thing))


if __name__ == "__main__":
    unittest.main()
