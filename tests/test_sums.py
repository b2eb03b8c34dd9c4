import unittest

from eachplace.sums import is_sum, worth
from tests.helpers import GREAT, Asking, odd_things

CAST = (("a", "b"), ("i", "j"), ("c", "d"))
STANDING = (((1, -2, 3), (10, 20, 50)), (1, 3), (17, -20))
LONE = (("a",), (), ())


class IsSumTest(Asking, unittest.TestCase):
    def test_right_ones(self):
        for base in (None, "c", "d", ("a", "i"), ("b", "j"), ("a", "end"), ("b", "end")):
            for more in (0, 1, -1, 999999999, GREAT, -GREAT):
                self.assert_yes(is_sum, CAST, (base, more))
        self.assert_yes(is_sum, LONE, (None, 0))
        self.assert_yes(is_sum, LONE, (("a", "end"), 0))

    def test_more_is_a_whole_number(self):
        for base in (None, "c", ("a", "i")):
            for more in (True, False, None, "", "1", 1.0, (), (1,), [1], {}, {1: 1}, b"1"):
                self.assert_no(is_sum, CAST, (base, more))

    def test_a_number_of_this_cast(self):
        for base in ("a", "i", "end", "e", "", "cc", "c ", "C", "most", "number", True, False, 0, 1, b"c", ["c"], {"c": 1}):
            self.assert_no(is_sum, CAST, (base, 0))
        self.assert_no(is_sum, LONE, ("c", 0))

    def test_a_row_of_this_cast(self):
        for row in ("c", "i", "end", "e", "", "aa", "row", None, True, 0, ("a",), ["a"], {"a": 1}, b"a"):
            self.assert_no(is_sum, CAST, ((row, "i"), 0))
            self.assert_no(is_sum, CAST, ((row, "end"), 0))

    def test_a_place_of_this_cast_or_the_end(self):
        for place in ("a", "c", "x", "", "ends", "en", "begin", "most", None, True, 0, 1, 3, ("i",), ["i"], {"i": 1}, b"i"):
            self.assert_no(is_sum, CAST, (("a", place), 0))
        self.assert_no(is_sum, LONE, (("a", "i"), 0))

    def test_lists_and_dicts_in_a_tuples_stead(self):
        for thing in ([None, 1], ["c", 1], {None: 1}, {"c": 1}, [("a", "i"), 1], (["a", "i"], 1), ({"a": "i"}, 1)):
            self.assert_no(is_sum, CAST, thing)

    def test_a_part_more_or_less(self):
        for thing in ((), (None,), ("c",), (("a", "i"),), (None, 1, 1), ("c", 1, None), ("a", "i", 1), ("a", "i")):
            self.assert_no(is_sum, CAST, thing)
        for base in ((), ("a",), ("i",), ("a", "i", "i"), ("a", "i", None), ("i", "a"), (("a", "i"),)):
            self.assert_no(is_sum, CAST, (base, 1))

    def test_of_anything(self):
        for thing in odd_things():
            self.assert_no(is_sum, CAST, thing)
            self.assert_no(is_sum, CAST, ((thing, "i"), 0))
            if thing != "end":
                self.assert_no(is_sum, CAST, (("a", thing), 0))
            if thing is not None:
                self.assert_no(is_sum, CAST, (thing, 0))
            if type(thing) is not int:
                self.assert_no(is_sum, CAST, ("c", thing))

    def test_nothing_is_one_of_what_is_no_cast(self):
        for cast in (None, (), [["a"], ["i"], ["c"]], ((), (), ("c",))):
            self.assert_no(is_sum, cast, ("c", 0))


class WorthTest(Asking, unittest.TestCase):
    def test_no_base(self):
        for more in (0, 5, -5, 10 ** 30):
            self.assert_whole(more, worth, CAST, STANDING, (None, more))

    def test_of_a_number(self):
        self.assert_whole(17, worth, CAST, STANDING, ("c", 0))
        self.assert_whole(20, worth, CAST, STANDING, ("c", 3))
        self.assert_whole(-20, worth, CAST, STANDING, ("d", 0))
        self.assert_whole(-23, worth, CAST, STANDING, ("d", -3))

    def test_of_a_row_at_a_place(self):
        self.assert_whole(-2, worth, CAST, STANDING, (("a", "i"), 0))
        self.assert_whole(3, worth, CAST, STANDING, (("a", "i"), 5))
        self.assert_whole(20, worth, CAST, STANDING, (("b", "i"), 0))
        self.assert_whole(13, worth, CAST, STANDING, (("b", "i"), -7))

    def test_at_the_end(self):
        for row in "ab":
            for place in ("end", "j"):
                self.assert_whole(0, worth, CAST, STANDING, ((row, place), 0))
                self.assert_whole(-4, worth, CAST, STANDING, ((row, place), -4))
        self.assert_whole(9, worth, LONE, (((),), (), ()), (("a", "end"), 9))

    def test_great_numbers(self):
        great = 10 ** 30 - 1
        standing = (((great,), (-great,)), (0, 1), (great, -great))
        self.assert_whole(great + 1, worth, CAST, standing, (("a", "i"), 1))
        self.assert_whole(-great - 1, worth, CAST, standing, (("b", "i"), -1))
        self.assert_whole(great - 999999999, worth, CAST, standing, ("c", -999999999))


if __name__ == "__main__":
    unittest.main()
