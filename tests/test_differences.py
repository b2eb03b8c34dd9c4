import itertools
import random
import unittest

from eachplace.bounds import bounded
from eachplace.differences import solved
from tests.helpers import asked_twice

HUGE = 10 ** 35 - 1


def things_in(edges):
    return {thing for one, other, more in edges for thing in (one, other)}


def fenced(edges, bound):
    """The edges, and that each thing is at most so far from 0."""
    things = [thing for thing in things_in(edges) if thing is not None]
    return edges + tuple(edge for t in things for edge in ((t, None, bound), (None, t, bound)))


def random_edges(dice, things, many, most):
    return tuple((dice.choice(things), dice.choice(things), dice.randint(-most, most)) for _ in range(many))


class EdgesTest(unittest.TestCase):
    def assert_numbers(self, edges, pairs):
        self.assertIs(type(pairs), tuple)
        things = [thing for thing, number in pairs]
        self.assertEqual(len(things), len(set(things)))
        self.assertEqual(set(things), things_in(edges) - {None})
        worths = {None: 0, **dict(pairs)}
        for one, other, more in edges:
            self.assertIs(type(worths[one]), int)
            self.assertLessEqual(worths[one], worths[other] + more)

    def assert_ring(self, edges, ring):
        self.assertIs(type(ring), tuple)
        self.assertTrue(1 <= len(ring) <= len(things_in(edges)))
        for at in ring:
            self.assertIs(type(at), int)
            self.assertTrue(0 <= at < len(edges))
        for at, behind in zip(ring, ring[1:] + ring[:1]):
            self.assertEqual(edges[at][1], edges[behind][0])
        self.assertLess(sum(edges[at][2] for at in ring), 0)

    def assert_solved(self, edges):
        told = asked_twice(self, solved, edges)
        self.assertEqual(len(told), 2)
        if told[0] == "numbers":
            self.assert_numbers(edges, told[1])
        else:
            self.assertEqual(told[0], "ring")
            self.assert_ring(edges, told[1])
        return told[0]

    def assert_bounded(self, edges, least=None):
        told = asked_twice(self, bounded, edges)
        if told[0] == "ring":
            self.assertEqual(len(told), 2)
            self.assert_ring(edges, told[1])
            self.assertIsNone(least)
            return None
        self.assertEqual((told[0], len(told)), ("bound", 3))
        self.assertIs(type(told[1]), int)
        self.assert_numbers(edges, told[2])
        self.assertTrue(all(abs(number) <= told[1] for thing, number in told[2]))
        if told[1] > 0:
            self.assertEqual(solved(fenced(edges, told[1] - 1))[0], "ring")
        self.assertGreaterEqual(told[1], 0)
        if least is not None:
            self.assertEqual(told[1], least)
        return told[1]


class SolvedTest(EdgesTest):
    def test_none_at_all(self):
        self.assertEqual(solved(()), ("numbers", ()))

    def test_one_and_other_the_same(self):
        self.assertEqual(self.assert_solved((("a", "a", 0),)), "numbers")
        self.assertEqual(self.assert_solved((("a", "a", 5),)), "numbers")
        self.assertEqual(solved((("a", "a", -1),)), ("ring", (0,)))
        self.assertEqual(solved(((None, None, 0),)), ("numbers", ()))
        self.assertEqual(solved(((None, None, -1),)), ("ring", (0,)))
        self.assertEqual(solved((("a", "b", 0), ("a", "b", -7), ("b", "b", -1))), ("ring", (2,)))

    def test_none_on_either_side(self):
        self.assertEqual(self.assert_solved((("a", None, 3),)), "numbers")
        self.assertEqual(self.assert_solved(((None, "a", -3),)), "numbers")
        self.assertEqual(solved((("a", None, 3), (None, "a", -3))), ("numbers", (("a", 3),)))
        self.assertEqual(self.assert_solved((("a", None, 3), (None, "a", -4))), "ring")
        self.assertEqual(self.assert_solved((("a", None, -3), (None, "a", 3), ("b", "a", -2), (None, "b", 5))), "numbers")
        self.assertEqual(self.assert_solved((("a", None, -3), (None, "a", 3), ("b", "a", -2), (None, "b", 4))), "ring")

    def test_things_alike_but_for_a_part(self):
        edges = (
            (("a", 0), ("a", 1), -1), (("a", 1), ("b", 1), -1), (("b", 1), ("a",), -1), (("a",), "a", -1), ("a", (), -1),
            ((), ("a", "0"), -1), (("a", "0"), (0, "a"), -1), ((0, "a"), "", -1), ("", ("a", 0, 0), -1), (("a", 0, 0), None, -1),
        )
        self.assertEqual(self.assert_solved(edges), "numbers")
        self.assertEqual(self.assert_solved(edges + ((None, ("a", 0), 9),)), "ring")
        self.assertEqual(self.assert_solved(edges + ((None, ("a", 0), 10),)), "numbers")
        self.assertEqual(self.assert_solved((((-1,), (-2,), -1), ((-2,), (-1,), 1))), "numbers")

    def test_several_between_the_same(self):
        self.assertEqual(self.assert_solved((("a", "b", 5), ("a", "b", 1), ("a", "b", 3), ("b", "a", -1))), "numbers")
        self.assertEqual(self.assert_solved((("a", "b", 5), ("a", "b", 1), ("a", "b", 3), ("b", "a", -2))), "ring")
        self.assertEqual(self.assert_solved((("a", "b", 5), ("a", "b", 5), ("b", "a", -5), ("b", "a", -5))), "numbers")

    def test_great_mores(self):
        self.assertEqual(self.assert_solved((("a", "b", HUGE), ("b", "a", -HUGE))), "numbers")
        self.assertEqual(self.assert_solved((("a", "b", HUGE - 1), ("b", "a", -HUGE))), "ring")
        around = tuple((k, (k + 1), -HUGE) for k in range(59))
        around = tuple(((one,), (other,), more) for one, other, more in around)
        self.assertEqual(self.assert_solved(around + (((59,), (0,), 59 * HUGE),)), "numbers")
        self.assertEqual(self.assert_solved(around + (((59,), (0,), 59 * HUGE - 1),)), "ring")

    def test_sixty_edges_many_times(self):
        dice = random.Random(60)
        seen = set()
        for turn in range(150):
            things = [None, "a", "b"] + [("a", k) for k in range(dice.randrange(30))]
            low = dice.choice((0, 3, 9))
            edges = tuple(
                (dice.choice(things), dice.choice(things), dice.randint(-low, 10) * HUGE // 10) for _ in range(60)
            )
            seen.add(self.assert_solved(edges))
        self.assertEqual(seen, {"numbers", "ring"})

    def test_against_all_small_numbers(self):
        dice = random.Random(10)
        things = (None, "a", "b")
        for turn in range(300):
            edges = random_edges(dice, things, dice.randrange(1, 6), 2)
            met = any(
                all({None: 0, "a": a, "b": b}[one] <= {None: 0, "a": a, "b": b}[other] + more for one, other, more in edges)
                for a, b in itertools.product(range(-8, 9), repeat=2)
            )
            self.assertEqual(self.assert_solved(edges), "numbers" if met else "ring")


class BoundedTest(EdgesTest):
    def test_none_at_all(self):
        self.assertEqual(bounded(()), ("bound", 0, ()))

    def test_nought(self):
        self.assertEqual(bounded((("a", "b", 0), ("b", "c", 5))), ("bound", 0, (("a", 0), ("b", 0), ("c", 0))))
        self.assert_bounded(((None, None, 0),), 0)
        self.assert_bounded((("a", "a", 0), (None, "a", 0), ("a", None, 0)), 0)

    def test_small_ones(self):
        self.assert_bounded((("a", None, -3),), 3)
        self.assert_bounded(((None, "a", -3),), 3)
        self.assert_bounded((("a", "b", -3),), 2)
        self.assert_bounded((("a", "b", -4),), 2)
        self.assert_bounded((("a", "b", -4), ("b", None, -4)), 8)
        self.assert_bounded((("a", "b", -4), ("b", None, 1)), 3)
        self.assert_bounded((("a", None, -1), (None, "b", -1), ("a", "b", 7)), 1)
        self.assert_bounded((("a", "b", -1), ("b", "c", -1), ("c", "d", -1)), 2)

    def test_rings(self):
        self.assertEqual(bounded((("a", "a", -1),)), ("ring", (0,)))
        self.assertEqual(bounded(((None, None, -1),)), ("ring", (0,)))
        self.assertIsNone(self.assert_bounded((("a", "b", -HUGE), ("b", None, 0), (None, "a", HUGE - 1))))

    def test_great_ones(self):
        self.assert_bounded((("a", None, -HUGE),), HUGE)
        self.assert_bounded((("a", "b", -HUGE),), (HUGE + 1) // 2)
        chain = tuple((("a", k), ("a", k + 1), -HUGE) for k in range(60))
        self.assert_bounded(chain, 30 * HUGE)
        self.assert_bounded(chain[:-1] + ((("a", 59), None, -HUGE),), 60 * HUGE)
        self.assert_bounded(tuple(((k,), ("x", k), -HUGE) for k in range(60)), (HUGE + 1) // 2)

    def test_the_least_one_many_times(self):
        dice = random.Random(11)
        told = set()
        for turn in range(200):
            things = [None] + [("a", k) for k in range(dice.randrange(1, 20))]
            low = dice.choice((1, 4))
            edges = tuple(
                (dice.choice(things), dice.choice(things), dice.randint(-low, 10)) for _ in range(dice.randrange(1, 61))
            )
            told.add(self.assert_bounded(edges))
        self.assertGreater(len(told), 5)
        self.assertIn(None, told)

    def test_against_all_small_numbers(self):
        dice = random.Random(12)
        for turn in range(200):
            edges = random_edges(dice, (None, "a", "b", "c"), dice.randrange(1, 5), 3)
            sizes = []
            for worths in itertools.product(range(-5, 6), repeat=3):
                at = {None: 0, **dict(zip("abc", worths))}
                if all(at[one] <= at[other] + more for one, other, more in edges):
                    named = [abs(at[thing]) for thing in things_in(edges) if thing is not None]
                    sizes.append(max(named, default=0))
            least = self.assert_bounded(edges)
            if least is None or least <= 5:
                self.assertEqual(least, min(sizes, default=None))


if __name__ == "__main__":
    unittest.main()
