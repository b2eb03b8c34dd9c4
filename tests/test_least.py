import itertools
import random
import unittest

from eachplace.checker import is_paper
from eachplace.deciding import decided
from eachplace.errors import EachError, TooWide
from eachplace.holding import holds
from eachplace.least import least_break
from eachplace.sayings import atoms_in, needed
from eachplace.sayingtexts import read_saying
from eachplace.standings import is_standing, length_of, size_of
from tests.helpers import Maker, Mixer, asked_twice
from tests.test_deciding import small_standings, with_atoms

CAST = (("a",), ("i",), ("c",))
LONE = (("a",), (), ())

# Each with the places and the size of its least break.
LEAST = (
    (CAST, "or ( )", 0, 0),
    (CAST, "less c 0", 0, 0),
    (CAST, "most c 0", 0, 1),
    (CAST, "most c 5", 0, 6),
    (CAST, "less -7 c", 0, 7),
    (CAST, "unlike c 9", 0, 9),
    (CAST, "most -3 c", 0, 4),
    (CAST, "here i end", 1, 0),
    (CAST, "same a.i 0", 1, 1),
    (CAST, "unlike a.i 4", 1, 4),
    (CAST, "most a.i c", 0, 1),
    (CAST, "if ahead i end most a.i c", 1, 1),
    (CAST, "if ahead i end most a.i c+4", 1, 3),
    (CAST, "if ahead i end most a.i c+5", 1, 3),
    (CAST, "if ahead i end most a.i c+6", 1, 4),
    (CAST, "not next i end", 1, 0),
    (CAST, "if ahead i end next i end", 2, 0),
    (CAST, "each x same a.x c", 1, 1),
    (CAST, "each x here x i", 1, 0),
    (CAST, "if ahead i end each x here x i", 2, 0),
    (CAST, "each x unlike a.x c+8", 1, 4),
    (CAST, "or ( less c 100 less 200 c )", 0, 100),
    (CAST, "or ( and ( less c 100 less -50 c ) less c -60 )", 0, 50),
    (LONE, "nexts a most", 2, 1),
    (LONE, "nexts a less", 2, 0),
    (LONE, "nexts a same", 2, 1),
    (LONE, "nexts a least", 2, 1),
    (LONE, "nexts a more", 2, 0),
    (LONE, "pairs x y most a.x a.y+10", 2, 6),
    (LONE, "pairs x y unlike a.x a.y-3", 2, 2),
    (LONE, "or ( nexts a most nexts a least )", 3, 1),
    (LONE, "or ( nexts a less nexts a more )", 2, 0),
    (LONE, "or ( pairs x y less a.x a.y+3 pairs x y less a.y a.x+3 )", 3, 2),
    (LONE, "or ( nexts a most each x less 7 a.x )", 2, 1),
    (LONE, "or ( nexts a most each x less a.x 7 )", 2, 7),
    (LONE, "or ( each x less a.x 5 each x less -5 a.x )", 2, 5),
    (LONE, "if pairs x y less a.x a.y or ( pairs x y less a.x a.y-1 each x unlike a.x 3 )", 2, 3),
)
HOLDING = (
    "most c c", "if nexts a less nexts a most", "or ( ahead i end here i end )", "each x ahead x end", "if unlike a.i 0 ahead i end",
    "if and ( nexts a less next i end ) each x most a.x a.i", "and ( )", "if each x same a.x c if ahead i end same a.i c",
)


class LeastCase(unittest.TestCase):
    def assert_least(self, cast, saying, places=None, size=None):
        told = asked_twice(self, least_break, cast, saying)
        if told is None:
            self.assertEqual(decided(cast, saying)[0], "holds")
            return None
        self.assertEqual((type(told), len(told)), (tuple, 2))
        standing, paper = told
        self.assertIs(is_standing(cast, standing), True)
        self.assertIs(holds(cast, standing, saying), False)
        length = length_of(standing)
        if length == 0:
            self.assertIsNone(paper)
        else:
            self.assertIs(is_paper(cast, saying, paper, length - 1), True)
            self.assertIs(is_paper(cast, saying, thing=paper, most=length - 1), True)
            self.assertIs(is_paper(cast, saying, paper), False)
            self.assertIs(is_paper(cast, saying, paper, length), False)
        if places is not None:
            self.assertEqual((length, size_of(standing)), (places, size), saying)
        return standing


class LeastTest(LeastCase):
    def test_what_holds(self):
        for text in HOLDING:
            self.assertIsNone(asked_twice(self, least_break, CAST, read_saying(CAST, text)), text)

    def test_the_fewest_places_and_the_least_size(self):
        for cast, text, places, size in LEAST:
            self.assertIsNotNone(self.assert_least(cast, read_saying(cast, text), places, size))

    def test_great_sizes(self):
        big = 999999999
        self.assert_least(CAST, ("most", ("c", 0), (None, big)), 0, big + 1)
        self.assert_least(CAST, read_saying(CAST, f"or ( less c {big} less {big} c )"), 0, big)
        self.assert_least(CAST, read_saying(CAST, f"each x most a.x c+{big}"), 1, (big + 2) // 2)
        self.assert_least(LONE, read_saying(LONE, f"pairs x y most a.x a.y+{big}"), 2, (big + 2) // 2)
        cast = (("a",), (), ("c", "d", "e", "f"))
        chain = f"not and ( less c+{big} d less d+{big} e less e+{big} f most {big} c )"
        self.assert_least(cast, read_saying(cast, chain), 0, 4 * big + 3)
        many = " ".join(f"and ( less c {k * 10 ** 8} less -{k * 10 ** 8} c )" for k in range(1, 8))
        self.assert_least(cast, read_saying(cast, f"or ( {many} )"), 0, 7 * 10 ** 8)
        huge = 10 ** 38
        self.assert_least(CAST, ("unlike", ("c", 0), (None, -huge)), 0, huge)
        # Two ways to break it: the second one tells of lesser numbers.
        two = ("and", (("less", ("c", 0), (None, huge)), ("less", (None, -huge // 7), ("c", 0))))
        self.assert_least(CAST, two, 0, huge // 7 + 1)

    def test_sizes_that_fall_in_many_steps(self):
        # Each choice of a part breaks it with another size; the least one is found among all.
        parts = " ".join(f"and ( less a.i {k} less -{97 * k // 10} c )" for k in range(9, 2, -1))
        saying = read_saying(CAST, f"if ahead i end or ( {parts} )")
        self.assert_least(CAST, saying, 1, 9)

    def test_the_least_of_many_sizes_in_any_order(self):
        dice = random.Random(17)
        for turn in range(150):
            greatest = dice.choice((6, 30, 10 ** 9))
            sizes = [dice.randint(1, greatest) for _ in range(dice.randint(1, 16))]
            if turn % 3 == 0:
                low = dice.randint(1, 40)
                sizes = list(range(low, low + dice.randint(1, 16)))
                dice.shuffle(sizes)
            parts = " ".join(f"unlike c {dice.choice((-1, 1)) * size}" for size in sizes)
            self.assert_least(CAST, read_saying(CAST, f"and ( {parts} )"), 0, min(sizes))

    def test_held_against_all_small_standings(self):
        casts = (CAST, LONE, (("a", "b"), (), ()), (("a",), ("i", "j"), ()))
        found = set()
        for turn in range(240):
            cast = casts[turn % 4]
            maker = Maker(cast, turn)
            saying = maker.saying(2 + turn % 5)
            if turn % 3:
                saying = ("if", maker.saying(3), saying)
            if needed(cast, saying) > 4 or atoms_in(saying) > 16:
                continue
            standing = self.assert_least(cast, saying)
            if standing is None:
                continue
            length, size = length_of(standing), size_of(standing)
            found.add((length, size))
            if size > 0 and size * length <= 4:
                lesser = small_standings(cast, length, range(1 - size, size))
                self.assertTrue(all(holds(cast, one, saying) for one in lesser), saying)
            for fewer in range(length):
                shorter = small_standings(cast, fewer, range(-1, 2))
                self.assertTrue(all(holds(cast, one, saying) for one in shorter), saying)
        self.assertGreater(len(found), 6)


    def test_much_that_hangs_together(self):
        found = set()
        for seed in range(2000):
            mixer = Mixer(seed)
            saying = mixer.claim()
            if needed(mixer.cast, saying) > 4 or atoms_in(saying) > 16:
                continue
            told = least_break(mixer.cast, saying)
            self.assertEqual(told is None, decided(mixer.cast, saying)[0] == "holds")
            if told is None:
                continue
            standing, paper = told
            length = length_of(standing)
            found.add(length)
            self.assertIs(is_standing(mixer.cast, standing), True)
            self.assertIs(holds(mixer.cast, standing, saying), False)
            self.assertEqual(paper is None, length == 0)
            self.assertIs(length == 0 or is_paper(mixer.cast, saying, paper, length - 1), True)
        self.assertLessEqual({0, 1, 2}, found)


class WideTest(unittest.TestCase):
    def test_atoms(self):
        cast = (("a",), (), ("c", "d"))
        self.assertIsNone(least_break(cast, with_atoms(16)))
        for many in (17, 40, 41):
            with self.assertRaises(TooWide) as caught:
                least_break(cast, with_atoms(many))
            self.assertIsInstance(caught.exception, EachError)

    def test_places(self):
        nexts, each = ("nexts", "a", "less"), ("each", "x", ("less", (("a", "x"), 0), (None, 0)))
        self.assertEqual(length_of(least_break(LONE, ("or", (nexts, nexts)))[0]), 2)
        self.assertEqual(length_of(least_break(LONE, ("or", (each,) * 4))[0]), 1)
        for saying in (("or", (nexts, nexts, each)), ("or", (each,) * 5), ("and", (("and", ()), ("or", (nexts,) * 3)))):
            with self.assertRaises(TooWide):
                least_break(LONE, saying)
        four = (("a",), ("i", "j", "k", "l"), ())
        self.assertIsNone(least_break(four, ("here", "i", "i")))
        for saying in (each, nexts, ("next", "i", "j")):
            with self.assertRaises(TooWide):
                least_break(four, saying)
        self.assertIsNotNone(least_break(four, ("not", nexts)))


class OrderTest(LeastCase):
    def test_many_places_in_few(self):
        cast = (("a",), ("i", "j", "k", "l"), ())
        pairs = list(itertools.combinations("ijkl", 2))
        for text, places, size in (
            (" ".join(f"here {one} {other}" for one, other in pairs), 3, 0),
            (" ".join(f"same a.{one} a.{other}" for one, other in pairs), 3, 2),
            ("here i end here j end here k end here l end", 1, 0),
            ("not ahead i j not ahead j k not ahead k l", 3, 0),
            ("not ahead i j not ahead j k not ahead k l here l end", 4, 0),
        ):
            self.assert_least(cast, read_saying(cast, f"or ( {text} )"), places, size)


if __name__ == "__main__":
    unittest.main()
