import time
import unittest

from eachplace.casts import is_cast
from eachplace.checker import is_paper
from eachplace.deciding import decided
from eachplace.errors import EachError, TooWide
from eachplace.holding import holds
from eachplace.judging import claim_of, judged
from eachplace.legs import along, legs_of
from eachplace.programs import heads_of, is_program
from eachplace.programtexts import read_program, show_program
from eachplace.sayings import atoms_in, is_saying, needed
from eachplace.sayingtexts import read_saying
from eachplace.standings import is_standing
from tests.helpers import ProgramMaker, asked_twice, shape, small_standings
from tests.texts import RIGHT, WRONG, rows

LONE = (("a",), ("i", "j"), ("c",))
YES = ("and", ())
# What a saying brings, by its word, where it is to be so (True) or not to be so.
BROUGHT = {("each", False): 1, ("pairs", False): 2, ("nexts", False): 2, ("next", False): 1}


def brought(saying, truth):
    if saying[0] == "not":
        return brought(saying[1], not truth)
    if saying[0] == "if":
        return brought(saying[1], not truth) + brought(saying[2], truth)
    if saying[0] in ("and", "or"):
        return sum(brought(part, truth) for part in saying[1])
    return BROUGHT.get((saying[0], truth), 0)


def deeds_on(program, leg):
    """The plain deeds on a leg, and the sayings that are asked on it."""
    heads = heads_of(program)
    done, asked = [], []
    choices = list(leg[1])

    def go(block):
        """Whether the end of the block is come to, and no head on it."""
        for deed in block:
            if deed[0] == "while":
                return False
            if deed[0] == "if":
                asked.append(deed[1])
                if not go(deed[2] if choices.pop(0) else deed[3]):
                    return False
            else:
                done.append(deed)
        return True

    def behind(block, head, count):
        """Goes on behind a head, out of all blocks around it: None where it isn't in this block."""
        for at, deed in enumerate(block):
            if deed[0] == "while":
                count[0] += 1
                if count[0] - 1 == head:
                    return go(block[at + 1:])
            parts = deed[2:] if deed[0] == "if" else deed[3:] if deed[0] == "while" else ()
            for part in parts:
                told = behind(part, head, count)
                if told is not None:
                    return told and deed[0] == "if" and go(block[at + 1:])
        return None

    if leg[0] is None:
        go(program[2])
    else:
        head, truth = leg[0]
        asked.append(heads[head][1])
        if truth:
            go(heads[head][3])
        else:
            behind(program[2], head, [0])
    return done, asked


def ends_of(program, leg):
    """What is said at the start of a leg, and what is due at its goal."""
    heads = heads_of(program)
    said = program[1] if leg[0] is None else heads[leg[0][0]][2]
    return said, program[3] if leg[2] is None else heads[leg[2]][2]


def counted(program, leg):
    """The places and the atoms of a leg."""
    said, due = ends_of(program, leg)
    done, asked = deeds_on(program, leg)
    words = [deed[0] for deed in done]
    places = len(program[0][1]) + words.count("go") + words.count("begin") + brought(said, True) + brought(due, False)
    atoms = sum(atoms_in(saying) for saying in (said, due, *asked))
    atoms += sum({"put": 4, "swap": 9, "set": 1, "go": 3, "begin": 1, "stand": 0}[word] for word in words)
    return places, atoms


def goes_wrong(program, leg, standing):
    said, due = ends_of(program, leg)
    if not holds(program[0], standing, said):
        return False
    goal = along(program, leg, standing)
    return goal is not None and not holds(program[0], goal, due)


def at_start(program, cast, standing):
    """What the program's names have in a standing of a claim's cast."""
    parts = []
    for names, mine, part in zip(cast, program[0], standing):
        parts.append(tuple(part[names.index(name)] for name in mine))
    return tuple(parts)


def told_names(thing):
    """The names that each and pairs tell in a saying."""
    if not isinstance(thing, tuple):
        return set()
    names = set().union(*(told_names(part) for part in thing))
    return names | set(thing[1:-1]) if thing[:1] in (("each",), ("pairs",)) else names


class ClaimsTest(unittest.TestCase):
    def assert_claim(self, program, leg):
        self.assertTrue(is_program(program))
        cast, saying = asked_twice(self, claim_of, program, leg)
        self.assertTrue(is_cast(cast))
        self.assertTrue(is_saying(cast, saying), saying)
        for names, mine in zip(cast, program[0]):
            self.assertLessEqual(set(mine), set(names))
        self.assertEqual(told_names(saying) & set(sum(cast, ())), set())
        places, atoms = counted(program, leg)
        self.assertLessEqual(needed(cast, saying), places)
        self.assertLessEqual(atoms_in(saying), atoms)
        return cast, saying

    def assert_just_where_wrong(self, program):
        """Over all small standings: what breaks a claim and what goes wrong on its leg are the same."""
        for leg in legs_of(program):
            cast, saying = self.assert_claim(program, leg)
            for length in range(3):
                mine = [one for one in small_standings(program[0], length, (0, 1)) if goes_wrong(program, leg, one)]
                broken = [one for one in small_standings(cast, length, (0, 1)) if not holds(cast, one, saying)]
                self.assertEqual({at_start(program, cast, one) for one in broken}, set(mine), (program, leg))


class EachDeedTest(ClaimsTest):
    DEEDS = (
        ("put", "a", "i", (None, 1)), ("put", "a", "i", ("c", 0)), ("put", "a", "i", (("a", "j"), 0)), ("put", "a", "end", (None, 1)),
        ("put", "a", "j", (("a", "end"), 0)), ("put", "a", "i", (("a", "i"), 0)),
        ("swap", "a", "i", "j"), ("swap", "a", "i", "i"), ("swap", "a", "i", "end"), ("swap", "a", "end", "j"),
        ("set", "c", (None, 1)), ("set", "c", (("a", "i"), 0)), ("set", "c", ("c", 0)), ("set", "c", (("a", "end"), 0)),
        ("stand", "i", "j"), ("stand", "i", "end"), ("stand", "i", "i"), ("begin", "i"), ("begin", "j"), ("go", "i"), ("go", "j"),
    )
    ENDS = (
        ("and ( )", "same a.i c"), ("and ( )", "ahead i j"), ("each x same a.x 0", "each x same a.x 0"), ("nexts a less", "nexts a less"),
        ("next i j", "here i j"), ("same a.i 0", "pairs x y or ( here x i same a.x a.y )"),
    )

    def ends(self):
        for first, last in self.ENDS:
            yield read_saying(LONE, first), read_saying(LONE, last)

    def test_each_deed_alone(self):
        for deed in self.DEEDS:
            for first, last in self.ends():
                self.assert_just_where_wrong((LONE, first, (deed,), last))

    def test_two_deeds(self):
        for at, one in enumerate(self.DEEDS):
            for other in self.DEEDS[at % 5::5]:
                first, last = list(self.ends())[at % 6]
                if [one[0], other[0]] != ["go", "go"]:
                    self.assert_just_where_wrong((LONE, first, (one, other), last))

    def test_askings_either_way(self):
        asked = read_saying(LONE, "or ( same a.i c ahead j end )")
        for deed in self.DEEDS[::2]:
            for first, last in list(self.ends())[::2]:
                self.assert_just_where_wrong((LONE, first, (deed, ("if", asked, (("put", "a", "j", (None, 0)),), ())), last))
                self.assert_just_where_wrong((LONE, first, (("while", asked, last, (deed,)),), last))

    def test_names_that_might_be_taken(self):
        cast = (("x", "y"), ("z",), ())
        for one, other, third in (("a", "b", "c"), ("b", "c", "d"), ("c", "b", "a"), ("d", "a", "e")):
            first = ("each", one, ("same", (("x", one), 0), (("y", one), 0)))
            last = ("pairs", other, third, ("same", (("x", other), 0), (("y", third), 0)))
            for deeds in ((("put", "x", "z", (None, 1)), ("go", "z")), (("begin", "z"), ("swap", "y", "z", "z"), ("put", "y", "z", (("x", "end"), 0)))):
                self.assert_just_where_wrong((cast, first, deeds, last))
                self.assert_just_where_wrong((cast, last, deeds, first))

    def test_great_sums(self):
        great = 999999999
        deeds = (("set", "c", ("c", great)),) * 20
        for last, word in ((f"less c {20 * great + 1}", "holds"), (f"less c {20 * great}", "broken")):
            program = (LONE, read_saying(LONE, "most c 0"), deeds, read_saying(LONE, last))
            cast, saying = self.assert_claim(program, (None, (), None))
            self.assertEqual(decided(cast, saying)[0], word)

    def test_made_programs(self):
        for seed in range(200):
            maker = ProgramMaker((("a", "b"), ("i", "j"), ("c", "d")), seed)
            program = maker.program(3)
            for leg in legs_of(program):
                cast, saying = self.assert_claim(program, leg)
                if needed(cast, saying) <= 6 and atoms_in(saying) <= 40:
                    word, told = decided(cast, saying)
                    if word == "broken":
                        self.assertTrue(goes_wrong(program, leg, at_start(program, cast, told)))
                    else:
                        for length in range(4):
                            self.assertFalse(goes_wrong(program, leg, maker.standing(length)))


class JudgedTest(unittest.TestCase):
    def assert_let_by(self, program):
        told = asked_twice(self, judged, program)
        self.assertEqual(told[0], "let by", told[1:] if told[0] == "fails" else None)
        self.assertEqual(len(told), 2)
        legs = legs_of(program)
        self.assertIs(type(told[1]), tuple)
        self.assertEqual(len(told[1]), len(legs))
        for leg, paper in zip(legs, told[1]):
            cast, saying = claim_of(program, leg)
            self.assertIs(is_paper(cast, saying, paper), True)

    def assert_fails(self, program, leg=None):
        told = asked_twice(self, judged, program)
        self.assertEqual((told[0], len(told)), ("fails", 3))
        _, first, standing = told
        if leg is not None:
            self.assertEqual(shape(first), shape(leg))
        self.assertIn(first, legs_of(program))
        self.assertTrue(is_standing(program[0], standing))
        self.assertTrue(goes_wrong(program, first, standing))
        for earlier in legs_of(program)[:legs_of(program).index(first)]:
            cast, saying = claim_of(program, earlier)
            self.assertEqual(decided(cast, saying)[0], "holds")


class KnownTest(JudgedTest):
    def test_right_ones(self):
        for text in RIGHT.values():
            self.assert_let_by(read_program(text))

    def test_a_little_less_or_more(self):
        for name, old, new, leg in WRONG:
            self.assertEqual(RIGHT[name].count(old), 1, (name, old))
            program = read_program(RIGHT[name].replace(old, new))
            if leg is None:
                self.assert_let_by(program)
            else:
                self.assert_fails(program, leg)

    def test_in_short_time(self):
        before = time.process_time()
        for text in RIGHT.values():
            judged(read_program(text))
        for name, old, new, _ in WRONG:
            judged(read_program(RIGHT[name].replace(old, new)))
        self.assertLess(time.process_time() - before, 20)


class NothingChangesTest(JudgedTest):
    def programs(self):
        for text in RIGHT.values():
            yield read_program(text), None
        for name, old, new, leg in WRONG:
            if leg is not None:
                yield read_program(RIGHT[name].replace(old, new)), leg

    def assert_judged(self, program, leg):
        self.assertTrue(is_program(program))
        if leg is None:
            self.assert_let_by(program)
        else:
            self.assert_fails(program, leg)

    def test_other_names(self):
        names = dict(zip("abgijcdxy", ("u", "v", "abcdefgh", "x", "y", "ends", "z", "a", "b")))

        def renamed(thing):
            return tuple(map(renamed, thing)) if isinstance(thing, tuple) else names.get(thing, thing)

        for program, leg in self.programs():
            other = renamed(program)
            self.assert_judged((tuple(tuple(sorted(part)) for part in other[0]), *other[1:]), leg)

    def test_a_row_and_a_number_more(self):
        for program, leg in self.programs():
            rows_, places, numbers = program[0]
            cast = (tuple(sorted(rows_ + ("aa", "zz"))), places, tuple(sorted(numbers + ("e",))))
            self.assert_judged((cast, *program[1:]), leg)

    def test_deeds_that_do_nothing(self):
        def filled(block, cast):
            places, numbers = cast[1:]
            nothing = [("stand", place, place) for place in places] + [("set", number, (number, 0)) for number in numbers]
            deeds = list(nothing)
            for deed in block:
                if deed[0] == "if":
                    deed = (*deed[:2], filled(deed[2], cast), filled(deed[3], cast))
                if deed[0] == "while":
                    deed = (*deed[:3], filled(deed[3], cast))
                deeds += [deed] + nothing
            return tuple(deeds)

        for program, leg in self.programs():
            self.assert_judged((*program[:2], filled(program[2], program[0]), program[3]), leg)

    def test_numbers_moved(self):
        # c is told of as one that is so much less, wherever it is told of.
        def moved(thing, more):
            if isinstance(thing, tuple) and thing[:1] == ("set",) and thing[1] == "c":
                base, number = moved(thing[2], more)
                return ("set", "c", (base, number + more))
            if isinstance(thing, tuple) and len(thing) == 2 and thing[0] == "c" and type(thing[1]) is int:
                return ("c", thing[1] - more)
            return tuple(moved(part, more) for part in thing) if isinstance(thing, tuple) else thing

        for program, leg in self.programs():
            self.assert_judged((program[0], *moved(program[1:], 123456)), leg)

    def test_ifs_of_what_is_plain(self):
        for program, leg in self.programs():
            if leg is None:
                self.assert_let_by((*program[:2], (("if", ("here", "end", "end"), program[2], ()),), program[3]))


class MadeTest(JudgedTest):
    CASTS = ((("a",), ("i",), ("c",)), (("a", "b"), ("i",), ()), (("a",), ("i", "j"), ()), (("a",), (), ("c",)))

    def test_against_small_standings(self):
        seen = {"let by": 0, "fails": 0, "wide": 0}
        for seed in range(600):
            cast = self.CASTS[seed % len(self.CASTS)]
            maker = ProgramMaker(cast, seed)
            program = maker.program(2)
            counts = [counted(program, leg) for leg in legs_of(program)]
            if any(places > 6 or atoms > 40 for places, atoms in counts):
                seen["wide"] += 1
                with self.assertRaises(TooWide):
                    judged(program)
                continue
            told = judged(program)
            seen[told[0]] += 1
            if told[0] == "fails":
                self.assert_fails(program)
            else:
                self.assert_let_by(program)
                for length in range(5):
                    standing = maker.standing(length)
                    for leg in legs_of(program):
                        self.assertFalse(goes_wrong(program, leg, standing))
        self.assertGreaterEqual(min(seen.values()), 20)


class WideTest(JudgedTest):
    """Six places and forty atoms are looked at, and not one more."""

    def assert_wide(self, program):
        self.assertTrue(is_program(program))
        with self.assertRaises(TooWide) as caught:
            judged(program)
        self.assertIsInstance(caught.exception, EachError)
        self.assertGreater(len(str(caught.exception)), 0)
        # A claim is told all the same.
        for leg in legs_of(program):
            cast, saying = claim_of(program, leg)
            self.assertTrue(is_saying(cast, saying))

    def with_atoms(self, deeds, many):
        """A program of these deeds, filled up to so many atoms; it is right."""
        filled = (("less", ("c", 0), ("c", 1)),) * many
        for at in range(many + 1):
            program = (LONE, ("and", filled[at:]), deeds, ("or", (YES,)))
            if counted(program, legs_of(program)[-1])[1] == many:
                return program
        raise AssertionError("too many atoms")

    def test_atoms_of_each_deed(self):
        for deeds in (
            (), (("put", "a", "i", (None, 1)),), (("put", "a", "end", (None, 1)),), (("swap", "a", "i", "j"),), (("swap", "a", "end", "end"),),
            (("set", "c", ("c", 1)),), (("go", "i"),), (("begin", "i"),), (("stand", "i", "j"),), (("put", "a", "i", ("c", 0)),) * 9,
            (("swap", "a", "i", "j"),) * 4, (("set", "c", ("c", 1)),) * 20, (("go", "i"),) * 4, (("begin", "i"),) * 4, (("stand", "i", "j"),) * 20,
            (("if", ("same", ("c", 0), ("c", 0)), (), ()),), (("if", ("and", (("ahead", "i", "j"),) * 5), (), ()),),
        ):
            self.assert_let_by(self.with_atoms(deeds, 40))
            self.assert_wide(self.with_atoms(deeds, 41))

    def test_atoms_of_what_a_while_asks(self):
        loop = ("while", ("or", (("ahead", "i", "j"),) * 3), YES, ())
        for many in (37, 38):
            program = (LONE, YES, (loop,), ("and", (("most", ("c", 0), ("c", 0)),) * many))
            if many == 37:
                self.assert_let_by(program)
            else:
                self.assert_wide(program)

    def test_atoms_of_what_is_kept(self):
        kept = ("and", (("most", ("c", 0), ("c", 0)),) * 19)
        loop = ("while", ("same", ("c", 0), (None, 0)), kept, (("set", "c", ("c", 1)),))
        self.assert_let_by((LONE, YES, (loop,), YES))
        self.assert_wide((LONE, YES, ((*loop[:3], (*loop[3], ("set", "c", ("c", 1)))),), YES))
        # Of a leg that no standing goes along, too.
        self.assert_wide((LONE, YES, (("if", ("or", ()), (("swap", "a", "i", "j"),) * 5, ()),), YES))

    def test_places_of_each_deed(self):
        cast = (("a",), ("i", "j", "k"), ())
        each = ("each", "x", ("same", (("a", "x"), 0), (("a", "x"), 0)))
        pairs = ("pairs", "x", "y", ("ahead", "x", "y"))
        for deed in (("go", "i"), ("begin", "k"), ("go", "j")):
            self.assert_let_by((cast, YES, (deed,) * 3, YES))
            self.assert_wide((cast, YES, (deed,) * 4, YES))
            self.assert_let_by((cast, YES, (deed,) * 2, each))
            self.assert_wide((cast, YES, (deed,) * 3, each))
            self.assert_let_by((cast, YES, (deed,), pairs))
            self.assert_wide((cast, YES, (deed,) * 2, pairs))
            self.assert_let_by((cast, ("not", each), (deed,) * 2, YES))
            self.assert_wide((cast, ("not", each), (deed,) * 3, YES))
            self.assert_let_by((cast, each, (deed,) * 3, YES))
        for deeds in ((), (("stand", "i", "j"),) * 3, (("put", "a", "i", (None, 1)),) * 3, (("swap", "a", "i", "k"),) * 3):
            self.assert_let_by((cast, YES, deeds, ("and", (each, pairs))))
            self.assert_wide((cast, YES, deeds, ("and", (each, each, pairs))))
        for word in ("nexts", "next"):
            due = ("or", (YES, ("nexts", "a", "less") if word == "nexts" else ("next", "i", "j")))
            self.assert_let_by((cast, YES, (("go", "i"),) * (1 if word == "nexts" else 2), due))
            self.assert_wide((cast, YES, (("go", "i"),) * (2 if word == "nexts" else 3), due))

    def test_ahead_of_all(self):
        # The first leg is wrong, and a later one too wide.
        program = (LONE, YES, (("if", ("or", ()), (("go", "i"),) * 5, ()),), ("or", ()))
        self.assert_wide(program)
        self.assert_fails((LONE, YES, (("if", ("or", ()), (("go", "i"),) * 4, ()),), ("or", ())), (None, (False,), None))

    def test_at_the_bounds_in_short_time(self):
        cast = rows("row a b place i j k l number c")
        same = "each x same a.x b.x"
        before = time.process_time()
        for first, deeds, last in (
            (same, ["swap a i j"] * 4, same),
            (same, ["swap a i j", "swap a k l", "swap a k l", "swap a i j"], same),
            (same, ["swap a i j", "swap b i j", "swap a k l", "swap b k l"], same),
            (same, ["put a i 1", "put a j 2", "put a k 3", "put a l 4", "put b i 1", "put b j 2", "put b k 3", "put b l 4"], same),
            ("each x most a.x c", ["swap a i j", "swap a j k", "swap a k l", "swap a l i"], "each x most a.x c"),
            ("not each x unlike a.x c", ["swap a i j", "swap a j k", "swap a k l"], "not each x unlike a.x c"),
            ("nexts a most", ["swap a i j", "swap a i j", "swap a k l", "swap a k l"], "nexts a most"),
        ):
            self.assert_let_by(read_program("\n".join([cast, f"first {first}", *deeds, f"last {last}"])))
        for first, deeds, last in (
            (same, ["swap a i j", "swap a j k", "swap a k l", "swap a l i"], same),
            (same, ["swap a i j", "swap a k l", "swap a i j", "swap a k l"], same),
            ("nexts a most", ["swap a i j", "swap a i j", "swap a k l", "swap a j k"], "nexts a most"),
        ):
            self.assert_fails(read_program("\n".join([cast, f"first {first}", *deeds, f"last {last}"])))
        self.assertLess(time.process_time() - before, 30)


class TextsTest(unittest.TestCase):
    def test_known_ones_are_written_so(self):
        for text in RIGHT.values():
            self.assertEqual(show_program(read_program(text)), text)


if __name__ == "__main__":
    unittest.main()
