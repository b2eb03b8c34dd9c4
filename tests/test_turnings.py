import unittest

from eachplace.standings import is_standing
from eachplace.turnings import joined, turned
from tests.helpers import Maker, asked_twice, shape

CAST = (("a", "b"), ("i", "j"), ("c",))
STANDING = (((1, -2, 3), (7, 8, 9)), (1, 3), (17,))
EMPTY = (((), ()), (0, 0), (17,))
ONE = (((5,), (6,)), (0, 1), (17,))
GREAT = 10 ** 30


class TurningsTest(unittest.TestCase):
    def assert_turned(self, standing, turning, told):
        self.assertTrue(is_standing(CAST, told))
        self.assertEqual(shape(asked_twice(self, turned, CAST, standing, turning)), shape(told), turning)

    def test_changed(self):
        self.assert_turned(STANDING, ("changed", "a", "i", (None, 5)), (((1, 5, 3), (7, 8, 9)), (1, 3), (17,)))
        self.assert_turned(STANDING, ("changed", "b", "i", ("c", -1)), (((1, -2, 3), (7, 16, 9)), (1, 3), (17,)))
        self.assert_turned(STANDING, ("changed", "b", "i", (("a", "i"), 1)), (((1, -2, 3), (7, -1, 9)), (1, 3), (17,)))
        self.assert_turned(STANDING, ("changed", "a", "i", (("a", "i"), 1)), (((1, -1, 3), (7, 8, 9)), (1, 3), (17,)))
        self.assert_turned(STANDING, ("changed", "a", "i", (("b", "j"), 4)), (((1, 4, 3), (7, 8, 9)), (1, 3), (17,)))
        self.assert_turned(STANDING, ("changed", "a", "i", (("b", "end"), 4)), (((1, 4, 3), (7, 8, 9)), (1, 3), (17,)))
        self.assert_turned(STANDING, ("changed", "a", "i", (None, GREAT)), (((1, GREAT, 3), (7, 8, 9)), (1, 3), (17,)))

    def test_changed_at_the_end_does_nothing(self):
        for place in ("j", "end"):
            self.assert_turned(STANDING, ("changed", "a", place, (None, 5)), STANDING)
        for place in ("i", "j", "end"):
            self.assert_turned(EMPTY, ("changed", "a", place, (None, 5)), EMPTY)
        self.assert_turned(ONE, ("changed", "a", "i", (None, 0)), (((0,), (6,)), (0, 1), (17,)))
        self.assert_turned(ONE, ("changed", "a", "j", (None, 0)), ONE)

    def test_exchanged(self):
        standing = (((1, -2, 3), (7, 8, 9)), (0, 2), (17,))
        told = (((3, -2, 1), (7, 8, 9)), (0, 2), (17,))
        self.assert_turned(standing, ("exchanged", "a", "i", "j"), told)
        self.assert_turned(standing, ("exchanged", "a", "j", "i"), told)
        self.assert_turned(standing, ("exchanged", "b", "i", "j"), (((1, -2, 3), (9, 8, 7)), (0, 2), (17,)))
        self.assert_turned(standing, ("exchanged", "a", "i", "i"), standing)
        same_place = (((1, -2), (7, 8)), (1, 1), (0,))
        self.assert_turned(same_place, ("exchanged", "a", "i", "j"), same_place)

    def test_exchanged_with_the_end_does_nothing(self):
        for places in (("i", "j"), ("j", "i"), ("i", "end"), ("end", "i"), ("end", "end"), ("j", "end"), ("j", "j")):
            self.assert_turned(STANDING, ("exchanged", "a", *places), STANDING)
            self.assert_turned(EMPTY, ("exchanged", "a", *places), EMPTY)
            self.assert_turned(ONE, ("exchanged", "b", *places), ONE)

    def test_turned(self):
        self.assert_turned(STANDING, ("turned",), (((3, -2, 1), (9, 8, 7)), (1, 3), (17,)))
        self.assert_turned((((1, -2, 3), (7, 8, 9)), (0, 2), (1,)), ("turned",), (((3, -2, 1), (9, 8, 7)), (2, 0), (1,)))
        self.assert_turned(EMPTY, ("turned",), EMPTY)
        self.assert_turned(ONE, ("turned",), ONE)

    def test_moved(self):
        self.assert_turned(STANDING, ("moved", 5), (((6, 3, 8), (12, 13, 14)), (1, 3), (17,)))
        self.assert_turned(STANDING, ("moved", -5), (((-4, -7, -2), (2, 3, 4)), (1, 3), (17,)))
        self.assert_turned(STANDING, ("moved", 0), STANDING)
        self.assert_turned(EMPTY, ("moved", 999999999), EMPTY)
        self.assert_turned(ONE, ("moved", 999999999), (((1000000004,), (1000000005,)), (0, 1), (17,)))

    def test_front(self):
        self.assert_turned(STANDING, ("front", "i"), (((1,), (7,)), (1, 1), (17,)))
        self.assert_turned(STANDING, ("front", "j"), STANDING)
        self.assert_turned(STANDING, ("front", "end"), STANDING)
        self.assert_turned((((1, 2), (3, 4)), (0, 1), (5,)), ("front", "i"), (((), ()), (0, 0), (5,)))
        self.assert_turned((((1, 2), (3, 4)), (0, 1), (5,)), ("front", "j"), (((1,), (3,)), (0, 1), (5,)))
        for place in ("i", "j", "end"):
            self.assert_turned(EMPTY, ("front", place), EMPTY)
        self.assert_turned(ONE, ("front", "i"), EMPTY)

    def test_back(self):
        self.assert_turned(STANDING, ("back", "i"), (((-2, 3), (8, 9)), (0, 2), (17,)))
        self.assert_turned(STANDING, ("back", "j"), EMPTY)
        self.assert_turned(STANDING, ("back", "end"), EMPTY)
        self.assert_turned((((1, 2), (3, 4)), (0, 1), (5,)), ("back", "i"), (((1, 2), (3, 4)), (0, 1), (5,)))
        self.assert_turned((((1, 2), (3, 4)), (0, 1), (5,)), ("back", "j"), (((2,), (4,)), (0, 0), (5,)))
        for place in ("i", "j", "end"):
            self.assert_turned(EMPTY, ("back", place), EMPTY)
        self.assert_turned(ONE, ("back", "i"), ONE)

    def test_of_other_casts(self):
        self.assertEqual(turned((("a",), (), ()), (((1, 2),), (), ()), ("turned",)), (((2, 1),), (), ()))
        self.assertEqual(turned((("a",), (), ()), (((1, 2),), (), ()), ("front", "end")), (((1, 2),), (), ()))
        self.assertEqual(turned((("a",), (), ()), (((1, 2),), (), ()), ("back", "end")), (((),), (), ()))

    def test_twice(self):
        maker = Maker(CAST, 19)
        for length in range(12):
            standing = maker.standing(length)
            self.assertEqual(turned(CAST, turned(CAST, standing, ("turned",)), ("turned",)), standing)
            self.assertEqual(turned(CAST, turned(CAST, standing, ("moved", 9)), ("moved", -9)), standing)
            swap = ("exchanged", "a", "i", "j")
            self.assertEqual(turned(CAST, turned(CAST, standing, swap), swap), standing)
            front = turned(CAST, standing, ("front", "i"))
            back = turned(CAST, standing, ("back", "i"))
            self.assertEqual(joined(front, back)[0], standing[0])


class JoinedTest(unittest.TestCase):
    def test_joined(self):
        other = (((4,), (0,)), (0, 0), (99,))
        self.assertEqual(
            shape(asked_twice(self, joined, STANDING, other)), shape((((1, -2, 3, 4), (7, 8, 9, 0)), (1, 3), (17,)))
        )
        self.assertEqual(
            shape(asked_twice(self, joined, other, STANDING)), shape((((4, 1, -2, 3), (0, 7, 8, 9)), (0, 0), (99,)))
        )

    def test_of_no_places(self):
        self.assertEqual(joined(STANDING, EMPTY), STANDING)
        self.assertEqual(joined(EMPTY, STANDING), (STANDING[0], (0, 0), (17,)))
        self.assertEqual(joined(EMPTY, EMPTY), EMPTY)
        self.assertEqual(joined((((),), (), ()), (((1,),), (), ())), (((1,),), (), ()))


if __name__ == "__main__":
    unittest.main()
