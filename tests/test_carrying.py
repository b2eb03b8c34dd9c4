import itertools
import time
import unittest

from eachplace.carrying import carried
from eachplace.holding import holds
from eachplace.sayings import atoms_in, is_saying
from eachplace.sayingtexts import read_saying
from eachplace.turnings import turned
from tests.helpers import Maker, asked_twice, small_standings

CAST = (("a", "b"), ("i", "j"), ("c",))
LONE = (("a",), ("i", "j"), ("c",))
# Names that one might take anew for each and pairs.
NAMED = (("x", "z"), ("y", "yy"), ("xx",))

WORDS = (
    "most a.i c", "less a.i a.j", "same c+1 a.j-1", "unlike a.i+1 a.end", "most c 0", "same a.i a.i", "less 2 a.j",
    "ahead i j", "ahead j i", "ahead i i", "ahead i end", "ahead end i", "here i j", "here i i", "here i end", "here end j",
    "next i j", "next j i", "next i i", "next i end", "next end i", "next end end",
    "nexts a most", "nexts a less", "nexts a same", "nexts a least", "nexts a more",
    "each x most a.x c", "each x less a.x a.i", "each x if ahead x i same a.x 0", "each x or ( here x i here x j )",
    "each x if ahead i x less a.j a.x", "each x not here x end", "each x ahead i j", "each x unlike a.i a.j",
    "pairs x y most a.x a.y", "pairs x y less a.y+1 a.x", "pairs x y if ahead y i same a.x a.y", "pairs x y ahead x y",
    "pairs x y or ( here x i here y j unlike a.x a.j )", "pairs y x less a.y a.x", "pairs x y not ahead y x",
    "pairs x y if and ( not ahead x i ahead y j ) most a.x a.y", "pairs x y not and ( here x j here y i )",
    "pairs x y here x y", "pairs x y not here y x", "each x here x x", "each x not ahead x x", "pairs x y if ahead y j here x i",
    "and ( )", "or ( )",
)
WRAPS = ("{}", "not {}", "and ( {} most c 1 )", "or ( {} less c 0 )", "if {} ahead i j", "if ahead i j {}", "not or ( not {} )")


def turnings_of(cast, sums):
    """The turnings of the cast at all of its places and the end."""
    rows, places, _ = cast
    spots = places + ("end",)
    yield ("turned",)
    for number in (0, 1, -2):
        yield ("moved", number)
    for spot in spots:
        yield ("front", spot)
        yield ("back", spot)
    for row in rows:
        for one, other in itertools.product(spots, spots):
            yield ("exchanged", row, one, other)
        for spot, one in itertools.product(spots, sums):
            yield ("changed", row, spot, one)


def renamed(thing, names):
    if isinstance(thing, tuple):
        return tuple(renamed(part, names) for part in thing)
    return names.get(thing, thing)


class CarriedTest(unittest.TestCase):
    def assert_carried(self, cast, saying, turnings, standings):
        told = saying
        for turning in turnings:
            told = asked_twice(self, carried, cast, told, turning)
            self.assertTrue(is_saying(cast, told), (saying, turning))
        for standing in standings:
            gone = standing
            # What was carried last is done first.
            for turning in reversed(turnings):
                gone = turned(cast, gone, turning)
            self.assertIs(holds(cast, standing, told), holds(cast, gone, saying), (saying, turnings, standing))
        return told


class WordsTest(CarriedTest):
    """Each word, over each turning, in all standings of at most three places."""

    STANDINGS = [
        one for length, sizes in ((0, (0, 1)), (1, (-1, 0, 2)), (2, (0, 1, 2)), (3, (0, 1))) for one in small_standings(LONE, length, sizes)
    ]

    def test_alone(self):
        sums = ((None, 1), ("c", 0), (("a", "i"), 1), (("a", "j"), 0))
        for text in WORDS:
            saying = read_saying(LONE, text)
            for turning in turnings_of(LONE, sums):
                self.assert_carried(LONE, saying, (turning,), self.STANDINGS)

    def test_within_other_words(self):
        sums = (("c", 1), (("a", "j"), 0))
        for at, text in enumerate(WORDS):
            for wrap in WRAPS[1:]:
                saying = read_saying(LONE, wrap.format(text))
                turnings = list(turnings_of(LONE, sums))
                for turning in turnings[at % 3::3]:
                    self.assert_carried(LONE, saying, (turning,), self.STANDINGS[at % 11::11])


class SeveralRowsTest(CarriedTest):
    STANDINGS = [
        one for length, sizes in ((0, (0, 1)), (1, (0, 1)), (2, (0, 1))) for one in small_standings(CAST, length, sizes)
    ]

    def test_the_other_row_stays(self):
        sums = ((None, 1), (("b", "j"), 0), (("a", "i"), -1))
        for text in (
            "same a.i b.i", "less a.i b.j", "each x most a.x b.x", "pairs x y less a.x b.y", "nexts b less", "and ( nexts a most nexts b least )",
            "if nexts a same each x unlike b.x a.j", "each x if ahead x i same a.x b.i",
        ):
            saying = read_saying(CAST, text)
            for turning in turnings_of(CAST, sums):
                self.assert_carried(CAST, saying, (turning,), self.STANDINGS)

    def test_longer_rows(self):
        maker = Maker(CAST, 31)
        standings = [maker.standing(length) for length in (4, 5, 6, 9, 12) for _ in range(6)]
        for turn in range(60):
            saying = maker.saying(2 + turn % 4)
            turnings = list(turnings_of(CAST, (maker.sum(), maker.sum())))
            for turning in turnings[turn % 4::4]:
                self.assert_carried(CAST, saying, (turning,), standings)


class NamesTest(CarriedTest):
    STANDINGS = [
        one for length in range(3) for one in small_standings(NAMED, length, (0, 1))
    ]

    def test_names_that_the_cast_has(self):
        names = dict(zip(("a", "b", "i", "j", "c", "x", "y"), ("x", "z", "y", "yy", "xx", "w", "v")))
        for text in WORDS[16:]:
            saying = renamed(read_saying(CAST, text), names)
            self.assertTrue(is_saying(NAMED, saying))
            for turning in turnings_of(NAMED, ((("x", "y"), 1),)):
                self.assert_carried(NAMED, saying, (turning,), self.STANDINGS[::3])

    def test_names_that_could_be_taken(self):
        cast = (("a",), ("i",), ())
        standings = [one for length in range(4) for one in small_standings(cast, length, (0, 1))]
        for one, other in itertools.permutations(("x", "y", "z", "b", "ends", "abcdefgh"), 2):
            for saying in (
                ("pairs", one, other, ("less", (("a", one), 0), (("a", other), 0))),
                ("and", (("nexts", "a", "most"), ("each", one, ("unlike", (("a", one), 0), (("a", "i"), 0))), ("next", "i", "end"))),
            ):
                for turning in turnings_of(cast, ((("a", "i"), 1), (None, 0))):
                    self.assert_carried(cast, saying, (turning,), standings)

    def test_casts_without_places(self):
        cast = (("a",), (), ())
        standings = [one for length in range(4) for one in small_standings(cast, length, (-1, 0, 1))]
        for text in ("nexts a less", "each x most a.x 0", "pairs x y unlike a.x a.y", "next end end", "same a.end 0", "ahead end end"):
            for turning in turnings_of(cast, ((None, 1),)):
                self.assert_carried(cast, read_saying(cast, text), (turning,), standings)


class SeveralTurningsTest(CarriedTest):
    STANDINGS = WordsTest.STANDINGS[::4]

    def test_two(self):
        turnings = list(turnings_of(LONE, (("c", 1), (("a", "j"), 0))))
        for at, text in enumerate(WORDS):
            saying = read_saying(LONE, text)
            pairs = list(itertools.product(turnings, turnings))
            for pair in pairs[at % 7::61]:
                self.assert_carried(LONE, saying, pair, self.STANDINGS)

    def test_more(self):
        maker = Maker(LONE, 33)
        turnings = list(turnings_of(LONE, (("c", 1), (("a", "j"), 0))))
        for turn in range(50):
            saying = maker.saying(1 + turn % 3)
            chain = tuple(maker.dice.choice(turnings) for _ in range(3 + turn % 2))
            self.assert_carried(LONE, saying, chain, self.STANDINGS[::5])

    def test_there_and_back(self):
        maker = Maker(LONE, 34)
        for turn in range(40):
            saying = maker.saying(1 + turn % 3)
            for turning, back in ((("turned",), ("turned",)), (("moved", 5), ("moved", -5)), (("exchanged", "a", "i", "j"),) * 2):
                told = carried(LONE, carried(LONE, saying, turning), back)
                for standing in self.STANDINGS:
                    self.assertIs(holds(LONE, standing, told), holds(LONE, standing, saying))


class GreatTest(CarriedTest):
    def test_sixteen_atoms(self):
        cast = (("a", "b", "d"), ("i", "j", "k", "l"), ("c",))
        maker = Maker(cast, 35)
        inner = ("and", tuple(("unlike", (("a", "x"), n), (("a", "yyyyyyyy"), 0)) for n in range(7)) + (("less", (("a", "i"), 0), (("a", "x"), 0)),))
        saying = ("and", (("pairs", "x", "yyyyyyyy", inner), *(("same", (("a", "j"), n), (("a", "k"), 0)) for n in range(6)), ("nexts", "a", "less"), ("next", "i", "l")))
        self.assertEqual(atoms_in(saying), 16)
        standings = [maker.standing(length) for length in range(6)] + [maker.standing(40)]
        before = time.process_time()
        for turning in turnings_of(cast, ((("a", "l"), 999999999),)):
            self.assert_carried(cast, saying, (turning,), standings)
        for turning in (("exchanged", "a", "i", "j"), ("front", "k"), ("changed", "a", "l", (("a", "i"), 1))):
            self.assert_carried(cast, saying, (turning, ("exchanged", "a", "k", "l")), standings)
        self.assertLess(time.process_time() - before, 30)

    def test_deep_ones(self):
        saying = ("less", (("a", "x"), 0), (("a", "i"), 0))
        for turn in range(12):
            saying = ("not", saying) if turn % 3 else ("or", (saying,))
        saying = ("each", "x", saying)
        standings = [one for length in range(3) for one in small_standings(LONE, length, (0, 1))]
        for turning in turnings_of(LONE, (("c", 0),)):
            self.assert_carried(LONE, saying, (turning, turning, turning), standings)

    def test_great_numbers(self):
        great = 999999999
        saying = read_saying(LONE, f"each x most a.x-{great} c+{great}")
        standings = [(((great, 3 * great, 2 * great, 0),), (1, 4), (great - one,)) for one in (-1, 0, 1)]
        for turning in (("moved", great), ("moved", -great), ("changed", "a", "i", ("c", great)), ("changed", "a", "i", (None, -great))):
            self.assert_carried(LONE, saying, (turning,), standings)
            self.assert_carried(LONE, saying, (turning, turning), standings)


if __name__ == "__main__":
    unittest.main()
