import itertools
import unittest

from eachplace.deciding import decided
from eachplace.errors import EachError, TooWide
from eachplace.forms import kept_of
from eachplace.holding import holds
from eachplace.judging import claim_of, judged
from eachplace.legs import along, legs_of
from eachplace.programs import heads_of, is_program
from eachplace.programtexts import read_program
from eachplace.sayings import atoms_in
from eachplace.sayingtexts import read_saying
from eachplace.standings import is_standing
from tests.helpers import ProgramMaker, asked_twice, shape
from tests.test_judging import counted
from tests.texts import RIGHT, rows

YES = ("and", ())


def with_kept(program, kept):
    """The program whose whiles keep these sayings, in order."""
    left = list(kept)

    def block_of(block):
        deeds = []
        for deed in block:
            if deed[0] == "while":
                own = left.pop(0)
                deed = ("while", deed[1], own, block_of(deed[3]))
            elif deed[0] == "if":
                deed = (*deed[:2], block_of(deed[2]), block_of(deed[3]))
            deeds.append(deed)
        return tuple(deeds)

    return (*program[:2], block_of(program[2]), program[3])


def with_choice(program, forms, choice):
    kept = [("and", tuple(sayings[number] for number in numbers)) for sayings, numbers in zip(forms, choice)]
    return with_kept(program, kept)


def legs_to_heads(program):
    return [leg for leg in legs_of(program) if leg[2] is not None]


def is_kept(program, forms, choice):
    whole = with_choice(program, forms, choice)
    return all(decided(*claim_of(whole, leg))[0] == "holds" for leg in legs_to_heads(whole))


def choices_of(forms):
    each = [
        [numbers for many in range(len(sayings) + 1) for numbers in itertools.combinations(range(len(sayings)), many)]
        for sayings in forms
    ]
    return itertools.product(*each)


def all_chosen(forms):
    return tuple(tuple(range(len(sayings))) for sayings in forms)


def said(program, *texts):
    return tuple(read_saying(program[0], text) for text in texts)


class FormsTest(unittest.TestCase):
    def assert_kept(self, program, forms, choice=None):
        self.assertTrue(is_program(program))
        told = asked_twice(self, kept_of, program, forms)
        self.assertEqual((type(told), len(told)), (tuple, 2))
        kept, falls = told
        if choice is not None:
            self.assertEqual(shape(kept), shape(choice))
        self.assertEqual(len(kept), len(forms))
        for numbers, sayings in zip(kept, forms):
            self.assertIs(type(numbers), tuple)
            self.assertEqual(list(numbers), sorted(set(numbers)))
            self.assertLessEqual(set(numbers), set(range(len(sayings))))
        self.assertTrue(is_kept(program, forms, kept))
        self.assert_falls(program, forms, kept, falls)
        return kept

    def assert_falls(self, program, forms, kept, falls):
        left = [list(numbers) for numbers in all_chosen(forms)]
        self.assertIs(type(falls), tuple)
        for head, number, leg, standing in falls:
            self.assertIn(number, left[head])
            self.assertIn(leg, legs_to_heads(program))
            self.assertEqual(leg[2], head)
            self.assertTrue(is_standing(program[0], standing))
            start = [program[1]] if leg[0] is None else [forms[leg[0][0]][one] for one in left[leg[0][0]]]
            for saying in start:
                self.assertTrue(holds(program[0], standing, saying))
            goal = along(program, leg, standing)
            self.assertIsNotNone(goal)
            self.assertFalse(holds(program[0], goal, forms[head][number]))
            left[head].remove(number)
        self.assertEqual(tuple(map(tuple, left)), kept)

    def assert_greatest(self, program, forms):
        kept = self.assert_kept(program, forms)
        for choice in choices_of(forms):
            if is_kept(program, forms, choice):
                for mine, other in zip(kept, choice):
                    self.assertLessEqual(set(other), set(mine))
        return kept


class KnownTest(FormsTest):
    def test_kept_by_itself(self):
        fill = read_program(RIGHT["fill"])
        self.assert_kept(fill, (said(fill, "each x if ahead x i same a.x c"),), ((0,),))
        self.assert_kept(fill, (said(fill, "most c c", "not ahead end i", "each x if ahead x i same a.x c"),), ((0, 1, 2),))

    def test_falls_at_once(self):
        fill = read_program(RIGHT["fill"])
        self.assert_kept(fill, (said(fill, "ahead i end"),), ((),))
        self.assert_kept(fill, (said(fill, "each x same a.x c", "each x if ahead x i same a.x c", "or ( )"),), ((1,),))

    def test_kept_only_as_another_one_is(self):
        rise = read_program(RIGHT["rise"])
        below = "each x if ahead x i less a.x c"
        pairs = "pairs x y if ahead y i less a.x a.y"
        self.assert_kept(rise, (said(rise, below, pairs),), ((0, 1),))
        self.assert_kept(rise, (said(rise, pairs, below),), ((0, 1),))
        self.assert_kept(rise, (said(rise, pairs),), ((),))
        self.assert_kept(rise, (said(rise, below),), ((0,),))

    def test_falls_because_another_one_fell(self):
        program = read_program(rows("""
            row a place i number c d e
            first and ( same c 0 same d 0 same e 0 )
            begin i
            while ahead i end
            kept and ( )
            set e d
            set d c
            set c a.i
            go i
            end
            last and ( )
        """))
        kept, falls = kept_of(program, (said(program, "same e 0", "same d 0", "same c 0"),))
        self.assertEqual(kept, ((),))
        self.assertEqual([number for _, number, _, _ in falls], [2, 1, 0])
        self.assert_kept(program, (said(program, "same e 0", "same d 0", "same c 0"),), ((),))
        self.assert_kept(program, (said(program, "same e 0", "same d 0"),), ((),))
        self.assert_kept(program, (said(program, "most 0 e", "most 0 d", "most 0 c", "each x most 0 a.x"),), ((),))
        other = (program[0], ("and", (program[1], *said(program, "each x most 0 a.x"))), *program[2:])
        self.assert_kept(other, (said(program, "most 0 e", "most 0 d", "most 0 c", "each x most 0 a.x"),), ((0, 1, 2, 3),))

    def test_falls_over_another_head(self):
        sort = read_program(RIGHT["sort"])
        order = "pairs x y if ahead x i most a.x a.y"
        least = "each x if and ( ahead x j not ahead x i ) most a.i a.x"
        self.assert_kept(sort, (said(sort, order), said(sort, "ahead i end", "not ahead j i", order, least)), ((0,), (0, 1, 2, 3)))
        self.assert_kept(sort, (said(sort, order), said(sort, "ahead i end", "not ahead j i", order)), ((), (0, 1)))
        self.assert_kept(sort, (said(sort, order), ()), ((), ()))
        self.assert_kept(sort, ((), said(sort, "ahead i end", "not ahead j i", least)), ((), (0, 1, 2)))
        self.assert_kept(sort, ((), said(sort, "not ahead j i", least, "ahead j end")), ((), (0, 1)))
        self.assert_kept(sort, (said(sort, order), said(sort, "ahead i end", order, least)), ((), (0, 2)))

    def test_the_same_saying_twice(self):
        fill = read_program(RIGHT["fill"])
        good, bad = "each x if ahead x i same a.x c", "ahead i end"
        self.assert_kept(fill, (said(fill, good, bad, good, bad),), ((0, 2),))

    def test_none_for_a_while(self):
        for text in RIGHT.values():
            program = read_program(text)
            self.assert_kept(program, ((),) * len(heads_of(program)), ((),) * len(heads_of(program)))
        self.assertEqual(kept_of(read_program(RIGHT["no deeds"]), ()), ((), ()))

    def test_own_kept_sayings_play_no_part(self):
        fill = read_program(RIGHT["fill"])
        forms = (said(fill, "each x if ahead x i same a.x c", "ahead i end"),)
        plain = kept_of(fill, forms)
        for kept in (YES, ("or", ()), ("and", (YES,) * 3), ("and", (("most", ("c", 0), ("c", 0)),) * 50)):
            self.assertEqual(kept_of(with_kept(fill, [kept]), forms), plain)

    def test_what_is_due_last_plays_no_part(self):
        fill = read_program(RIGHT["fill"])
        forms = (said(fill, "each x if ahead x i same a.x c", "ahead i end"),)
        plain = kept_of(fill, forms)
        for last in (("or", ()), ("and", (("most", ("c", 0), ("c", 0)),) * 50)):
            self.assertEqual(kept_of((*fill[:3], last), forms), plain)

    def test_let_by_with_what_was_chosen(self):
        for name in ("greatest", "fill", "take over", "find", "two whiles", "sort"):
            program = read_program(RIGHT[name])
            forms = [kept[1] if kept[0] == "and" else (kept,) for _, _, kept, _ in heads_of(program)]
            forms = tuple(tuple(sayings) + said(program, "here i end") for sayings in forms)
            kept = self.assert_kept(program, forms)
            self.assertEqual([len(sayings) - 1 for sayings in forms], [len(numbers) for numbers in kept])
            self.assertEqual(judged(with_choice(program, forms, kept))[0], "let by")


class GreatestTest(FormsTest):
    CASTS = ((("a",), ("i",), ("c",)), (("a", "b"), ("i",), ()), (("a",), ("i", "j"), ()), (("a",), (), ("c",)))

    def test_against_all_choices(self):
        seen = set()
        done = 0
        for seed in range(400):
            cast = self.CASTS[seed % len(self.CASTS)]
            maker = ProgramMaker(cast, seed)
            program = maker.program(2)
            heads = heads_of(program)
            if not 1 <= len(heads) <= 3:
                continue
            forms = tuple(tuple(maker.saying(2) for _ in range(maker.dice.randrange(4 if len(heads) < 3 else 3))) for _ in heads)
            whole = with_choice(program, forms, all_chosen(forms))
            counts = [counted(whole, leg) for leg in legs_to_heads(whole)]
            if any(places > 6 or atoms > 40 for places, atoms in counts):
                with self.assertRaises(TooWide):
                    kept_of(program, forms)
                continue
            kept = self.assert_greatest(program, forms)
            done += 1
            seen.update(len(numbers) - len(sayings) for numbers, sayings in zip(kept, forms))
        self.assertGreater(done, 100)
        self.assertLessEqual({0, -1, -2}, seen)


class WideTest(FormsTest):
    def assert_wide(self, program, forms):
        self.assertTrue(is_program(program))
        with self.assertRaises(TooWide) as caught:
            kept_of(program, forms)
        self.assertIsInstance(caught.exception, EachError)

    def test_atoms(self):
        cast = (("a",), ("i",), ("c",))
        program = (cast, YES, (("while", ("ahead", "i", "end"), YES, (("set", "c", ("c", 1)),)),), YES)

        def form(many):
            return ("and", (("less", ("c", 0), ("c", 1)),) * many)

        # From head to head both ends count, the asking, and the set.
        self.assert_kept(program, ((form(10), form(9)),), ((0, 1),))
        self.assertEqual(2 * atoms_in(form(19)) + 2, 40)
        self.assert_wide(program, ((form(10), form(10)),))
        self.assert_wide(program, ((form(4),) * 5,))
        # What falls at once counts, too.
        self.assert_wide(program, ((form(10), form(9), ("less", ("c", 0), ("c", 0))),))

    def test_places(self):
        cast = (("a",), ("i", "j", "k"), ())
        each = ("each", "x", ("ahead", "x", "end"))
        program = (cast, YES, (("while", ("ahead", "i", "end"), YES, (("go", "i"),)),), YES)
        self.assert_kept(program, ((each, each),), ((0, 1),))
        self.assert_wide(program, ((each, each, each),))
        self.assert_wide(program, ((each, ("nexts", "a", "less")),))
        # What is said at the start and is denied there brings places as well.
        self.assert_wide(program, ((("not", each), each, each),))

    def test_legs_to_the_end_do_not_count(self):
        cast = (("a",), ("i",), ("c",))
        loop = ("while", ("ahead", "i", "end"), YES, (("go", "i"),))
        each = first = ("each", "x", ("same", (("a", "x"), 0), ("c", 0)))
        many = ("and", (first,) * 50)
        program = (cast, first, (loop, *(("swap", "a", "i", "i"),) * 10, *(("go", "i"),) * 9), many)
        self.assert_kept(program, ((each,),), ((0,),))
        with self.assertRaises(TooWide):
            judged(with_kept(program, [each]))
        self.assert_wide((cast, first, (*(("go", "i"),) * 6, loop), YES), ((each,),))
        self.assertEqual(kept_of((cast, many, (("go", "i"),) * 9, many), ()), ((), ()))


if __name__ == "__main__":
    unittest.main()
