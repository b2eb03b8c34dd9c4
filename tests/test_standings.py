import unittest

from eachplace.standings import is_standing, length_of, number_at, place_of, size_of
from tests.helpers import GREAT, Asking, odd_things

CAST = (("a", "b"), ("i", "j"), ("c", "d"))
STANDING = (((1, -2, 3), (0, 0, 5)), (3, 0), (17, -20))
LONE = (("a",), (), ())


def with_part(thing, at, part):
    return thing[:at] + (part,) + thing[at + 1:]


class IsStandingTest(Asking, unittest.TestCase):
    def test_ordinary(self):
        self.assert_yes(is_standing, CAST, STANDING)
        self.assert_yes(is_standing, CAST, (((7,), (8,)), (0, 1), (0, 0)))
        self.assert_yes(is_standing, LONE, (((1, 2, 3),), (), ()))

    def test_no_places(self):
        self.assert_yes(is_standing, LONE, (((),), (), ()))
        self.assert_yes(is_standing, CAST, (((), ()), (0, 0), (5, 6)))
        self.assert_no(is_standing, CAST, (((), ()), (0, 1), (5, 6)))
        self.assert_no(is_standing, CAST, (((), ()), (-1, 0), (5, 6)))

    def test_places_from_nought_to_the_length(self):
        for at in range(2):
            for place in (0, 1, 2, 3):
                self.assert_yes(is_standing, CAST, with_part(STANDING, 1, with_part((1, 1), at, place)))
            for place in (-1, -3, 4, 5, GREAT, -GREAT):
                self.assert_no(is_standing, CAST, with_part(STANDING, 1, with_part((1, 1), at, place)))

    def test_rows_of_unlike_lengths(self):
        for rows in (((1, 2), (1,)), ((1,), (1, 2)), ((), (1,)), ((1,), ()), ((1, 2, 3), (1, 2, 3, 4))):
            self.assert_no(is_standing, CAST, (rows, (0, 0), (0, 0)))

    def test_whole_numbers_alone(self):
        for wrong in (True, False, None, "1", "", (), (1,), [], [1], {}, {1: 1}, 1.0, b"1"):
            self.assert_no(is_standing, CAST, with_part(STANDING, 0, ((1, wrong, 3), (0, 0, 5))))
            self.assert_no(is_standing, CAST, with_part(STANDING, 0, ((1, 2, 3), (wrong, 0, 5))))
            self.assert_no(is_standing, CAST, with_part(STANDING, 1, (wrong, 0)))
            self.assert_no(is_standing, CAST, with_part(STANDING, 1, (0, wrong)))
            self.assert_no(is_standing, CAST, with_part(STANDING, 2, (wrong, 0)))
            self.assert_no(is_standing, CAST, with_part(STANDING, 2, (0, wrong)))

    def test_lists_and_others_in_a_tuples_stead(self):
        self.assert_no(is_standing, CAST, list(STANDING))
        for at in range(3):
            for stead in (list(STANDING[at]), {0: 1, 1: 2}, None, True, 2, "ab", b"ab"):
                self.assert_no(is_standing, CAST, with_part(STANDING, at, stead))
        for stead in ([1, -2, 3], {0: 1, 1: 2, 2: 3}, None, True, 3, "abc", b"abc"):
            self.assert_no(is_standing, CAST, with_part(STANDING, 0, (stead, (0, 0, 5))))
            self.assert_no(is_standing, CAST, with_part(STANDING, 0, ((0, 0, 5), stead)))
            self.assert_no(is_standing, LONE, ((stead,), (), ()))

    def test_a_part_more_or_less(self):
        self.assert_no(is_standing, CAST, STANDING[:2])
        self.assert_no(is_standing, CAST, STANDING + ((),))
        for at in range(3):
            self.assert_no(is_standing, CAST, with_part(STANDING, at, STANDING[at][:1]))
            self.assert_no(is_standing, CAST, with_part(STANDING, at, STANDING[at] + STANDING[at][:1]))
            self.assert_no(is_standing, CAST, with_part(STANDING, at, ()))
        self.assert_no(is_standing, LONE, ((), (), ()))

    def test_great_ones(self):
        self.assert_yes(is_standing, CAST, (((GREAT,), (-GREAT,)), (0, 1), (GREAT, -GREAT)))
        self.assert_yes(is_standing, LONE, ((tuple(range(-10000, 9990)),), (), ()))
        self.assert_no(is_standing, LONE, ((tuple(range(19990)) + (True,),), (), ()))
        five = (tuple("abcde"), tuple("ijklm"), ())
        self.assert_yes(is_standing, five, (((1,),) * 5, (0,) * 5, ()))

    def test_of_anything(self):
        for thing in odd_things():
            self.assert_no(is_standing, LONE, thing)
            self.assert_no(is_standing, CAST, thing)
            self.assert_no(is_standing, CAST, (thing, (0, 0), (0, 0)))
            self.assert_no(is_standing, CAST, with_part(STANDING, 1, thing))
            self.assert_no(is_standing, CAST, with_part(STANDING, 2, thing))
            if thing != ():
                self.assert_no(is_standing, LONE, (((1,),), thing, ()))
                self.assert_no(is_standing, LONE, (((1,),), (), thing))

    def test_nothing_is_one_of_what_is_no_cast(self):
        for cast in (None, (), ((), (), ()), [["a"], [], []], (("b", "a"), (), ())):
            self.assert_no(is_standing, cast, (((1,), (1,)), (), ()))


class PartsOfStandingsTest(Asking, unittest.TestCase):
    def test_length(self):
        self.assert_whole(3, length_of, STANDING)
        self.assert_whole(0, length_of, (((), ()), (0, 0), (17, 17)))
        self.assert_whole(1, length_of, (((9,),), (), ()))
        self.assert_whole(40, length_of, ((tuple(range(40)),), (), ()))

    def test_size(self):
        self.assert_whole(20, size_of, STANDING)
        self.assert_whole(9, size_of, (((1, -9), (3, 4)), (0, 2), (5, 8)))
        self.assert_whole(9, size_of, (((1, 2), (3, 9)), (0, 2), (5, 8)))
        self.assert_whole(8, size_of, (((1, 2), (3, 4)), (0, 2), (-5, -8)))
        self.assert_whole(1, size_of, (((-1,),), (), ()))
        self.assert_whole(7, size_of, (((),), (), (-7,)))
        self.assert_whole(10 ** 30 - 1, size_of, (((1,),), (), (1 - 10 ** 30,)))

    def test_size_of_no_number_at_all(self):
        self.assert_whole(0, size_of, (((),), (), ()))
        self.assert_whole(0, size_of, (((), ()), (0,), ()))
        self.assert_whole(0, size_of, (((0, 0),), (), (0,)))

    def test_size_counts_no_places(self):
        self.assert_whole(1, size_of, (((1, 1, 1),), (3,), (0,)))
        self.assert_whole(0, size_of, (((0, 0, 0),), (2, 3), ()))

    def test_place(self):
        self.assert_whole(3, place_of, CAST, STANDING, "i")
        self.assert_whole(0, place_of, CAST, STANDING, "j")
        self.assert_whole(3, place_of, CAST, STANDING, "end")
        self.assert_whole(0, place_of, CAST, (((), ()), (0, 0), (1, 2)), "end")
        self.assert_whole(0, place_of, CAST, (((), ()), (0, 0), (1, 2)), "j")
        self.assert_whole(2, place_of, LONE, (((4, 5),), (), ()), "end")

    def test_number(self):
        for row, numbers in zip("ab", STANDING[0]):
            for place in range(3):
                self.assert_whole(numbers[place], number_at, CAST, STANDING, row, place)

    def test_number_at_the_end_is_nought(self):
        self.assert_whole(0, number_at, CAST, STANDING, "a", 3)
        self.assert_whole(0, number_at, CAST, STANDING, "b", 3)
        self.assert_whole(0, number_at, LONE, (((),), (), ()), "a", 0)
        self.assert_whole(0, number_at, LONE, (((7,),), (), ()), "a", 1)


if __name__ == "__main__":
    unittest.main()
