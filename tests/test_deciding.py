import itertools
import unittest

from eachplace.casts import is_cast
from eachplace.checker import is_paper
from eachplace.deciding import decided
from eachplace.errors import EachError, TooWide
from eachplace.holding import holds
from eachplace.sayings import atoms_in, is_saying, needed
from eachplace.sayingtexts import read_saying
from eachplace.standings import is_standing, length_of
from tests.helpers import Maker, Mixer, asked_twice, nested, small_standings

CAST = (("a", "b"), ("i", "j"), ("c", "d"))
NINE = "999999999"

HOLDING = (
    "most c c", "less c c+1", "less c-1 c", "same c c", "unlike c c+1", "most 3 4", "less -4 -3", "same 5 5", "unlike 5 -5",
    "same a.end 0", "same a.end b.end", "less a.end+1 2", "most a.i a.i", "not less a.i a.i", "and ( )", "not or ( )",
    "here i i", "here end end", "not ahead i i", "not ahead end i", "not next i i", "not next end i", "not next end end",
    "or ( ahead i end here i end )", "or ( ahead i j here i j ahead j i )", "if next i j ahead i j", "if next i end ahead i end",
    "if here i j here j i", "if and ( here i j here j end ) here i end", "if and ( ahead i j ahead j end ) not next i end",
    "if and ( next i j next j end ) not next i end", "if here i j same a.i a.j", "if here i end same b.i 0",
    "if unlike a.i a.j not here i j", "if unlike a.i 0 ahead i end", "if and ( not ahead i j not ahead j i ) same a.i a.j",
    "if and ( most c d most d c ) same c d", "or ( less c d same c d less d c )", "if unlike c d or ( less c d less d c )",
    "if and ( less c d less d a.i ) less c+1 a.i", "if most c " + NINE + " less c-" + NINE + " 1",
    "each x most a.x a.x", "each x ahead x end", "each x not here x end", "each x or ( ahead x i here x i ahead i x )",
    "pairs x y ahead x y", "pairs x y not here x y", "pairs x y not ahead y x", "pairs x y ahead x end",
    "if each x same a.x 5 each y same a.y 5", "if each x same a.x 5 if ahead i end same a.i 5", "if and ( each x less a.x b.x ahead i end ) not each x most b.x a.x",
    "if pairs x y less a.x a.y pairs x y most a.x a.y", "if pairs x y less a.x a.y nexts a less", "if nexts a less pairs x y less a.x a.y",
    "if nexts a most pairs x y most a.x a.y", "if nexts a same pairs x y same a.x a.y", "if nexts a least pairs x y most a.y a.x",
    "if nexts a more pairs x y less a.y a.x", "if nexts a less nexts a most", "if nexts a same and ( nexts a most nexts a least )",
    "if and ( nexts a most nexts a least ) nexts a same", "if and ( nexts a less nexts a more ) pairs x y most c c-1",
    "if and ( nexts a less next i j ahead j end ) less a.i a.j", "if and ( nexts a most not ahead j i ahead j end ) most a.i a.j",
    "if and ( each x if ahead x i most a.x c next i j most a.i c ) each x if ahead x j most a.x c",
    "if and ( pairs x y if ahead y i most a.x a.y each x if ahead x i most a.x a.i next i j ) pairs x y if ahead y j most a.x a.y",
    "if and ( each x if ahead x i unlike a.x c here i end ) each x unlike a.x c",
    "if and ( each x same a.x b.x nexts a less ) nexts b less", "if next i j each x not and ( ahead i x ahead x j )",
    "if and ( ahead i j each x not and ( ahead i x ahead x j ) ) next i j", "if and ( next i j next i end ) here j end",
    "if and ( next i end next j end ) here i j", "or ( not each x unlike a.x c each x unlike a.x c )",
    "or ( nexts a less not pairs x y less a.x a.y )", "if not each x most a.x c not each x less a.x c",
    "if and ( each x most 0 a.x each x less a.x 3 each x unlike a.x 0 each x unlike a.x 2 ) each x same a.x 1",
)
BROKEN = (
    "or ( )", "not and ( )", "most c d", "less c d", "less c c", "same c d", "unlike c d", "unlike c c", "most 4 3", "same 5 -5",
    "same a.i 0", "most a.i a.j", "same a.i b.i", "ahead i j", "ahead i end", "here i j", "not here i j", "next i j", "not next i j",
    "not next i end", "if ahead i j next i j", "if next i j next j end", "or ( next i end here i end )", "most c " + NINE,
    "if less c d less c+1 d", "less -" + NINE + " a.i", "each x same a.x 0", "not each x same a.x 0", "each x unlike a.x c",
    "each x ahead x i", "each x here x i", "pairs x y most a.x a.y", "not pairs x y most a.x a.y", "pairs x y unlike a.x a.y",
    "nexts a most", "nexts a less", "nexts a same", "nexts a least", "nexts a more", "not nexts a most", "or ( nexts a most nexts a least )",
    "if nexts a most nexts a less", "if nexts a most nexts b most", "if and ( nexts a most ahead i j ) most a.i a.j",
    "if and ( nexts a less ahead i j ) less a.i a.j", "if each x most a.x c most a.i c", "if each x most 1 a.x most 1 a.i",
    "if each x less a.x b.x not each x most b.x a.x", "if next i j less a.i a.j", "if not next i j not ahead i j",
    "if and ( ahead i j ahead j end ) each x or ( here x i here x j )", "if pairs x y less a.x a.y each x less a.x c",
    "if and ( each x most 0 a.x each x less a.x 3 pairs x y less a.x a.y ) pairs x y less a.x a.y-1",
)


def said(text, cast=CAST):
    return read_saying(cast, text)


def with_atoms(many):
    """A saying that holds, of so many atoms."""
    return ("or", (("less", ("c", 0), ("c", 1)),) + (("most", ("d", 0), ("c", 0)),) * (many - 1))


class DecidedTest(unittest.TestCase):
    def assert_decided(self, cast, saying, word=None):
        self.assertTrue(is_cast(cast) and is_saying(cast, saying))
        told = asked_twice(self, decided, cast, saying)
        self.assertIs(type(told), tuple)
        self.assertEqual(len(told), 2)
        if word is not None:
            self.assertEqual(told[0], word, saying)
        if told[0] == "holds":
            self.assertIs(is_paper(cast, saying, told[1]), True, saying)
            self.assertIs(is_paper(cast, saying, thing=told[1], most=2), True, saying)
        else:
            self.assertEqual(told[0], "broken")
            self.assertIs(is_standing(cast, told[1]), True, saying)
            self.assertIs(holds(cast, told[1], saying), False, saying)
            self.assertLessEqual(length_of(told[1]), needed(cast, saying))
        return told[0]


class WordsTest(DecidedTest):
    def test_what_holds(self):
        for text in HOLDING:
            self.assert_decided(CAST, said(text), "holds")

    def test_what_is_broken(self):
        for text in BROKEN:
            self.assert_decided(CAST, said(text), "broken")

    def test_denials(self):
        for text in HOLDING:
            self.assert_decided(CAST, ("not", said(text)), "broken")

    def test_of_no_places_and_no_numbers(self):
        lone = (("a",), (), ())
        self.assert_decided(lone, said("if nexts a less pairs x y unlike a.x a.y", lone), "holds")
        self.assert_decided(lone, said("pairs x y unlike a.x a.y", lone), "broken")
        self.assert_decided(lone, said("same a.end 0", lone), "holds")
        self.assert_decided(lone, ("and", ()), "holds")
        self.assert_decided(lone, ("or", ()), "broken")

    def test_of_great_numbers(self):
        big = 999999999
        chain = [("most", ("c", big), (("a", "i"), 0)), ("most", (("a", "i"), big), ("d", 0))]
        self.assert_decided(CAST, ("if", ("and", tuple(chain)), ("most", ("c", 2 * big), ("d", 0))), "holds")
        self.assert_decided(CAST, ("if", ("and", tuple(chain)), ("most", ("c", 2 * big + 1), ("d", 0))), "broken")
        huge = 10 ** 39
        self.assert_decided(CAST, ("if", ("most", ("c", huge), ("d", 0)), ("less", ("c", huge - 1), ("d", 0))), "holds")
        self.assert_decided(CAST, ("if", ("most", ("c", huge), ("d", 0)), ("less", ("c", huge), ("d", 0))), "broken")

    def test_whatever_word_stands_within(self):
        maker = Maker(CAST, 15)
        seen = set()
        for turn in range(1500):
            saying = maker.saying(2 + turn % 4)
            if turn % 2:
                saying = ("if", maker.saying(3), saying)
            if needed(CAST, saying) <= 6 and atoms_in(saying) <= 40:
                seen.add(self.assert_decided(CAST, saying))
        self.assertEqual(seen, {"holds", "broken"})

    def test_much_that_hangs_together(self):
        seen = {"holds": 0, "broken": 0}
        for seed in range(3000):
            mixer = Mixer(seed)
            saying = mixer.claim()
            if needed(mixer.cast, saying) <= 6 and atoms_in(saying) <= 40:
                word, told = decided(mixer.cast, saying)
                seen[word] += 1
                if word == "holds":
                    self.assertIs(is_paper(mixer.cast, saying, told), True, saying)
                else:
                    self.assertIs(is_standing(mixer.cast, told), True, saying)
                    self.assertIs(holds(mixer.cast, told, saying), False, saying)
        self.assertGreater(min(seen.values()), 800)

    def test_several_places_between(self):
        for text in (
            "if and ( ahead i j ahead j end each x if ahead j x here x i ) or ( next i j next j end )",
            "if and ( ahead i j ahead j end each x if ahead x j here x i ) or ( next i j next j end )",
            "if and ( ahead i j ahead j end each x if ahead i x most 1 a.x each x if ahead j x less a.x 1 ) or ( next i j next j end )",
        ):
            self.assert_decided(CAST, said(text), "holds")
        self.assert_decided(CAST, said("if and ( ahead i j ahead j end ) or ( next i j next j end )"), "broken")

    def test_against_all_small_standings(self):
        cast = (("a",), ("i",), ("c",))
        maker = Maker(cast, 3)
        standings = [one for length in range(4) for one in small_standings(cast, length, (-1, 0, 1))]
        for turn in range(200):
            saying = maker.saying(2 + turn % 3)
            if needed(cast, saying) <= 6 and atoms_in(saying) <= 40 and self.assert_decided(cast, saying) == "holds":
                self.assertTrue(all(holds(cast, standing, saying) for standing in standings), saying)


class ShownAtOnceTest(DecidedTest):
    """Sayings within others that other facts decide, whatever words they are made of."""

    CAST = (("a",), ("i", "j"), ("c", "d"))
    STANDING = (((2, 5),), (0, 1), (1, 3))
    FACTS = "same c 1 same d 3 same a.i 2 same a.j 5 ahead i j ahead j end"

    def test_words_within_words(self):
        facts = said(f"and ( {self.FACTS} )", self.CAST)[1]
        maker = Maker(self.CAST, 16)
        seen = {"holds": 0, "broken": 0}
        for turn in range(1200):
            # Within an each neither next nor nexts nor another each stands: facts decide all else.
            one, other = maker.saying(1 + turn % 5, ("i", "j")), maker.saying(1 + turn % 4, ("i", "j"))
            joined = ("or", (one, other)) if turn % 2 else ("and", (("or", (one, other)), ("if", other, one)))
            saying = ("not", ("and", facts + (joined,)))
            if atoms_in(saying) <= 40:
                word = "broken" if holds(self.CAST, self.STANDING, joined) else "holds"
                seen[word] += 1
                self.assertEqual(self.assert_decided(self.CAST, saying), word, saying)
        self.assertGreater(min(seen.values()), 200)

    def test_each_word(self):
        for text, so in (
            ("most c d", True), ("less d c", False), ("same c d", False), ("same c+2 d", True), ("unlike c d", True), ("unlike a.i 2", False),
            ("ahead i j", True), ("ahead j i", False), ("here i j", False), ("here i i", True), ("next j i", False), ("next i i", False),
            ("not less c d", False), ("and ( less c d less d c )", False), ("or ( less d c less a.j c )", False),
            ("if less c d less d c", False), ("if less d c less d c", True), ("if less c d less c d", True), ("not if less c d less d c", True),
        ):
            first = said(f"not and ( {self.FACTS} or ( {text} less d c ) )", self.CAST)
            self.assert_decided(self.CAST, first, "broken" if so else "holds")
            second = said(f"not and ( {self.FACTS} or ( not {text} less d c ) )", self.CAST)
            self.assert_decided(self.CAST, second, "holds" if so else "broken")
            third = said(f"if each x {text} if and ( {self.FACTS} ) {text}", self.CAST) if "next" not in text else first
            self.assert_decided(self.CAST, third)


class WideTest(DecidedTest):
    def test_atoms(self):
        self.assert_decided(CAST, with_atoms(40), "holds")
        for many in (41, 42, 60):
            with self.assertRaises(TooWide) as caught:
                decided(CAST, with_atoms(many))
            self.assertIsInstance(caught.exception, EachError)
            self.assertGreater(len(str(caught.exception)), 0)

    def test_places(self):
        cast = (("a",), ("i", "j", "k", "l"), ())
        nexts, each = ("nexts", "a", "less"), ("each", "x", ("less", (("a", "x"), 0), (None, 0)))
        self.assert_decided(cast, ("or", (nexts,)), "broken")
        self.assert_decided(cast, ("or", (each, each)), "broken")
        self.assert_decided(cast, ("or", (("next", "i", "j"), ("next", "i", "k"))), "broken")
        self.assert_decided(cast, ("or", (nexts, ("not", nexts))), "holds")
        for saying in (("or", (nexts, each)), ("or", (each,) * 3), ("or", (("next", "i", "j"), nexts)), ("and", (nexts, nexts))):
            with self.assertRaises(TooWide):
                decided(cast, saying)
        # The cast's places count, whether they are told of or not, and so does what is plain at once.
        with self.assertRaises(TooWide):
            decided(cast, ("or", (("and", ()), nexts, each)))
        self.assert_decided((("a",), ("i", "j", "k"), ()), ("or", (nexts, each)), "broken")
        self.assert_decided((("a",), tuple("hijklm"), ()), ("here", "h", "h"), "holds")
        with self.assertRaises(TooWide):
            decided((("a",), tuple("hijklmn"), ()), ("here", "h", "h"))

    def test_denied_three_times(self):
        nexts = ("nexts", "a", "less")
        self.assert_decided((("a",), (), ()), ("or", (nexts,) * 3), "broken")
        self.assert_decided((("a",), (), ()), ("not", ("and", (nexts,) * 7)), "broken")
        with self.assertRaises(TooWide):
            decided((("a",), (), ()), ("or", (nexts,) * 4))


class ManyCasesTest(DecidedTest):
    def test_as_many_places_as_numbers_and_one_more(self):
        for many in (3, 4, 5):
            names = tuple("ijklm"[:many])
            cast = (("a",), names, ())
            parts = [f"ahead {one} {other}" for one, other in zip(names, names[1:] + ("end",))]
            parts += ["each x most 0 a.x", "pairs x y unlike a.x a.y"]
            for top, word in ((many - 1, "holds"), (many, "broken")):
                text = f"not and ( each x less a.x {top} {' '.join(parts)} )"
                self.assert_decided(cast, said(text, cast), word)

    def test_places_in_no_order(self):
        names = tuple("ijkl")
        cast = (("a",), names, ())
        parts = [f"not here {one} {other}" for one, other in itertools.combinations(names, 2)]
        parts += [f"ahead {one} end" for one in names] + ["each x most 0 a.x", "pairs x y unlike a.x a.y"]
        for top, word in ((3, "holds"), (4, "broken")):
            self.assert_decided(cast, said(f"not and ( each x less a.x {top} {' '.join(parts)} )", cast), word)

    def test_twelve_unlikes_at_one_pair(self):
        parts = " ".join(["unlike a.i a.j"] + [f"unlike a.i a.j+{k}" for k in range(1, 12)])
        self.assert_decided(CAST, said(f"not and ( most a.j a.i less a.i a.j+12 {parts} )"), "holds")
        self.assert_decided(CAST, said(f"not and ( most a.j a.i less a.i a.j+13 {parts} )"), "broken")
        names = tuple("ijkl")
        cast = (("a",), names, ())
        apart = " ".join(["unlike a.x a.y"] + [f"unlike a.x a.y{k:+d}" for k in range(-5, 6) if k])
        order = " ".join(f"ahead {one} {other}" for one, other in zip(names, names[1:] + ("end",)))
        for top, word in ((18, "holds"), (19, "broken")):
            text = f"not and ( {order} pairs x y and ( {apart} ) each x and ( most 0 a.x less a.x {top} ) )"
            self.assert_decided(cast, said(text, cast), word)

    def test_many_choices_that_play_no_part(self):
        parts = " ".join(f"or ( less c {k} less d {k} same a.i {k} )" for k in range(10))
        self.assert_decided(CAST, said(f"not and ( {parts} unlike a.j 3 each x same a.x 3 ahead j end )"), "holds")
        self.assert_decided(CAST, said(f"not and ( unlike a.j 3 each x same a.x 3 ahead j end {parts} )"), "holds")
        self.assert_decided(CAST, said(f"not and ( unlike a.j 3 each x same a.x 3 {parts} )"), "broken")

    def test_cases_that_stand_twice(self):
        twice = "or ( most c 3 most c 3 most 7 c most c 3 most 7 c )"
        for text, word in (("same c 5 same c 5 same c 6", "holds"), ("same c 5 same c 3 same c 5", "broken")):
            self.assert_decided(CAST, said(f"not and ( {twice} or ( {text} ) )"), word)
            self.assert_decided(CAST, said(f"not and ( or ( {text} ) {twice} )"), word)
        for text in ("less c 0 less 0 c less 0 c", "less 0 c less c 0 less 0 c less c 0", "less c 0 less c 0 less 0 c"):
            self.assert_decided(CAST, said(f"not and ( or ( {text} ) or ( same c 0 same c 0 ) )"), "holds")
            self.assert_decided(CAST, said(f"not and ( or ( {text} ) or ( same c 0 same c 1 ) )"), "broken")
        names = tuple("ijk")
        cast = (("a",), names, ())
        order = " ".join(f"ahead {one} {other}" for one, other in zip(names, names[1:] + ("end",)))
        for top, word in ((1, "holds"), (2, "broken")):
            text = f"not and ( {order} pairs x y or ( unlike a.x a.y unlike a.x a.y ) each x and ( most 0 a.x most a.x {top} ) )"
            self.assert_decided(cast, said(text, cast), word)

    def test_two_rows_of_two_numbers(self):
        names = tuple("ijkl")
        cast = (("a", "b"), names, ())
        order = " ".join(f"ahead {one} {other}" for one, other in zip(names, names[1:] + ("end",)))
        bits = "each x and ( most 0 a.x less a.x 2 most 0 b.x less b.x 2 )"
        text = f"not and ( {order} {bits} pairs x y or ( unlike a.x a.y unlike b.x b.y ) not each x or ( here x i ahead x i ) )"
        self.assert_decided(cast, said(text, cast), "broken")
        text = f"not and ( {order} {bits} pairs x y or ( unlike a.x a.y unlike b.x b.y ) not each x not ahead x i )"
        self.assert_decided(cast, said(text, cast), "holds")


class NothingChangesTest(DecidedTest):
    def texts(self):
        for text in HOLDING[::3]:
            yield text, "holds"
        for text in BROKEN[::3]:
            yield text, "broken"

    def test_other_names(self):
        other = (("u", "v"), ("abcdefgh", "z"), ("ends", "mosts"))
        names = dict(zip("abijcd", other[0] + other[1] + other[2]))
        names.update({"x": "xx", "y": "d", "end": "end"})

        def renamed(thing):
            if isinstance(thing, tuple):
                return tuple(renamed(part) for part in thing)
            return names.get(thing, thing)

        for text, word in self.texts():
            self.assert_decided(other, renamed(said(text)), word)

    def test_rows_that_are_not_told_of(self):
        for text, word in self.texts():
            self.assert_decided((("a", "aa", "b"), ("i", "j"), ("c", "d")), said(text), word)

    def test_numbers_moved_with_what_is_said_of_them(self):
        def moved(thing, more):
            if isinstance(thing, tuple) and len(thing) == 2 and thing[0] == "c":
                return (thing[0], thing[1] - more)
            if isinstance(thing, tuple):
                return tuple(moved(part, more) for part in thing)
            return thing

        for text, word in self.texts():
            self.assert_decided(CAST, moved(said(text), 123456789), word)

    def test_deep_ones(self):
        for text, word in self.texts():
            self.assert_decided(CAST, nested(lambda part: ("not", ("not", part)), 4, said(text)), word)
            self.assert_decided(CAST, nested(lambda part: ("and", (part,)), 8, said(text)), word)


if __name__ == "__main__":
    unittest.main()
