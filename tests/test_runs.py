import unittest

from eachplace.holding import holds
from eachplace.programs import heads_of
from eachplace.runs import askings, run
from eachplace.sayingtexts import read_saying
from eachplace.standings import is_standing, length_of
from eachplace.sums import worth
from eachplace.turnings import turned
from tests.helpers import ProgramMaker, asked_twice, shape

CAST = (("a", "b"), ("i", "j"), ("c",))
STANDING = (((1, -2, 3), (7, 8, 9)), (1, 3), (17,))
EMPTY = (((), ()), (0, 0), (17,))
YES = ("and", ())
NO = ("or", ())


def said(text):
    return read_saying(CAST, text)


def program(*deeds):
    return (CAST, YES, tuple(deeds), YES)


def with_place(cast, standing, name, place):
    places = tuple(place if one == name else have for one, have in zip(cast[1], standing[1]))
    return (standing[0], places, standing[2])


def done(cast, standing, deed):
    """The standing behind a deed, by turnings."""
    word = deed[0]
    if word == "put":
        return turned(cast, standing, ("changed", *deed[1:]))
    if word == "swap":
        return turned(cast, standing, ("exchanged", *deed[1:]))
    if word == "set":
        numbers = tuple(worth(cast, standing, deed[2]) if name == deed[1] else have for name, have in zip(cast[2], standing[2]))
        return (*standing[:2], numbers)
    places = dict(zip(cast[1], standing[1]), end=length_of(standing))
    if word == "stand":
        return with_place(cast, standing, deed[1], places[deed[2]])
    if word == "begin":
        return with_place(cast, standing, deed[1], 0)
    return with_place(cast, standing, deed[1], min(places[deed[1]] + 1, length_of(standing)))


def steps_of(whole, standing):
    """Each step of a run, one behind another: (head or None, standing ahead of it, standing behind it)."""
    cast = whole[0]
    state = [standing]
    numbers = {}

    def number(block):
        for deed in block:
            if deed[0] == "while":
                numbers[id(deed)] = len(numbers)
            for part in deed[2:] if deed[0] == "if" else deed[3:] if deed[0] == "while" else ():
                number(part)

    def go(block):
        for deed in block:
            before = state[0]
            if deed[0] == "if":
                yield (None, before, before)
                yield from go(deed[2] if holds(cast, before, deed[1]) else deed[3])
            elif deed[0] == "while":
                truth = True
                while truth:
                    truth = holds(cast, state[0], deed[1])
                    yield (numbers[id(deed)], state[0], state[0])
                    if truth:
                        yield from go(deed[3])
            else:
                state[0] = done(cast, before, deed)
                yield (None, before, state[0])

    number(whole[2])
    return go(whole[2])


class RunTest(unittest.TestCase):
    def assert_run(self, whole, standing, most, told):
        self.assertEqual(shape(asked_twice(self, run, whole, standing, most)), shape(told), (whole, most))

    def assert_ended(self, whole, standing, steps, goal):
        """It has just so many steps, and those asked for fewer are begun ones."""
        for most in (steps, steps + 1, steps + 1000):
            self.assert_run(whole, standing, most, ("ended", steps, goal))
        if steps > 0:
            self.assertEqual(run(whole, standing, steps - 1)[:2], ("on", steps - 1))
            self.assert_run(whole, standing, 0, ("on", 0, standing))


class DeedsTest(RunTest):
    def assert_done(self, standing, deed, goal):
        self.assertTrue(is_standing(CAST, goal))
        self.assert_ended(program(deed), standing, 1, goal)

    def test_put(self):
        self.assert_done(STANDING, ("put", "a", "i", (None, 5)), (((1, 5, 3), (7, 8, 9)), (1, 3), (17,)))
        self.assert_done(STANDING, ("put", "b", "i", (("a", "i"), 1)), (((1, -2, 3), (7, -1, 9)), (1, 3), (17,)))
        self.assert_done(STANDING, ("put", "a", "i", ("c", -17)), (((1, 0, 3), (7, 8, 9)), (1, 3), (17,)))
        self.assert_done(STANDING, ("put", "a", "i", (("b", "end"), 2)), (((1, 2, 3), (7, 8, 9)), (1, 3), (17,)))
        for place in ("j", "end"):
            self.assert_done(STANDING, ("put", "a", place, (None, 5)), STANDING)
        for place in ("i", "j", "end"):
            self.assert_done(EMPTY, ("put", "a", place, (None, 5)), EMPTY)

    def test_swap(self):
        standing = (((1, -2, 3), (7, 8, 9)), (0, 2), (17,))
        for places in (("i", "j"), ("j", "i")):
            self.assert_done(standing, ("swap", "a", *places), (((3, -2, 1), (7, 8, 9)), (0, 2), (17,)))
            self.assert_done(STANDING, ("swap", "a", *places), STANDING)
            self.assert_done(EMPTY, ("swap", "a", *places), EMPTY)
        for places in (("i", "i"), ("i", "end"), ("end", "j"), ("end", "end")):
            self.assert_done(standing, ("swap", "b", *places), standing)
        one = (((4, 5), (6, 7)), (1, 1), (0,))
        self.assert_done(one, ("swap", "a", "i", "j"), one)

    def test_set(self):
        for one, number in (((None, 5), 5), (("c", 1), 18), ((("a", "i"), 0), -2), ((("a", "j"), 3), 3), ((("b", "end"), -1), -1)):
            self.assert_done(STANDING, ("set", "c", one), (*STANDING[:2], (number,)))
        great = 10 ** 30 - 1
        self.assert_done((*STANDING[:2], (great,)), ("set", "c", ("c", great)), (*STANDING[:2], (2 * great,)))

    def test_places(self):
        for deed, places in (
            (("stand", "i", "j"), (3, 3)), (("stand", "j", "i"), (1, 1)), (("stand", "i", "end"), (3, 3)), (("stand", "i", "i"), (1, 3)),
            (("begin", "i"), (0, 3)), (("begin", "j"), (1, 0)), (("go", "i"), (2, 3)), (("go", "j"), (1, 3)),
        ):
            self.assert_done(STANDING, deed, (STANDING[0], places, (17,)))
        for deed in (("stand", "i", "end"), ("begin", "i"), ("go", "i"), ("go", "j")):
            self.assert_done(EMPTY, deed, EMPTY)
        self.assert_done((((1,), (2,)), (0, 0), (0,)), ("go", "i"), (((1,), (2,)), (1, 0), (0,)))

    def test_one_behind_another(self):
        deeds = (("set", "c", (("a", "i"), 0)), ("go", "i"), ("put", "a", "i", ("c", 1)), ("stand", "j", "i"), ("begin", "i"), ("swap", "a", "i", "j"))
        self.assert_ended(program(*deeds), STANDING, 6, (((-1, -2, 1), (7, 8, 9)), (0, 2), (-2,)))


class StepsTest(RunTest):
    def test_no_deeds(self):
        self.assert_ended(program(), STANDING, 0, STANDING)
        self.assertEqual(askings(program(), STANDING, 5), ())

    def test_if(self):
        gone = (STANDING[0], (2, 3), (17,))
        self.assert_ended(program(("if", YES, (("go", "i"),), ())), STANDING, 2, gone)
        self.assert_ended(program(("if", NO, (("go", "i"),), ())), STANDING, 1, STANDING)
        self.assert_ended(program(("if", NO, (), (("go", "i"),))), STANDING, 2, gone)
        self.assert_ended(program(("if", YES, (), ()), ("if", NO, (), ())), STANDING, 2, STANDING)
        self.assert_ended(program(("if", said("less a.i 0"), (("if", said("ahead j end"), (), (("go", "i"),)),), ())), STANDING, 3, gone)

    def test_while(self):
        go = ("while", said("ahead i end"), YES, (("go", "i"),))
        self.assert_ended(program(go), STANDING, 5, (STANDING[0], (3, 3), (17,)))
        self.assert_ended(program(("begin", "i"), go), STANDING, 8, (STANDING[0], (3, 3), (17,)))
        self.assert_ended(program(go), EMPTY, 1, EMPTY)
        self.assert_ended(program(("while", NO, YES, (("go", "i"),))), STANDING, 1, STANDING)
        self.assert_run(program(go), STANDING, 4, ("on", 4, (STANDING[0], (3, 3), (17,))))
        self.assert_run(program(go), STANDING, 3, ("on", 3, (STANDING[0], (2, 3), (17,))))

    def test_never_ending(self):
        for deeds in ((), (("go", "i"),), (("if", NO, (), ()),), (("while", NO, YES, ()),)):
            whole = program(("while", YES, NO, deeds), ("begin", "i"))
            for most in (0, 1, 2, 17, 1000):
                word, steps, _ = asked_twice(self, run, whole, STANDING, most)
                self.assertEqual((word, steps), ("on", most))
        self.assert_run(program(("while", YES, YES, ())), STANDING, 100000, ("on", 100000, STANDING))

    def test_what_is_kept_plays_no_part(self):
        for kept in (YES, NO, said("nexts a less"), said("each x same a.x 0")):
            whole = program(("while", said("ahead i end"), kept, (("go", "i"),)))
            self.assert_ended(whole, STANDING, 5, (STANDING[0], (3, 3), (17,)))
        self.assertEqual(run((CAST, NO, (("go", "i"),), NO), STANDING, 9), ("ended", 1, (STANDING[0], (2, 3), (17,))))


class AskingsTest(RunTest):
    def test_each_asking(self):
        whole = program(("while", said("ahead i end"), YES, (("go", "i"),)), ("while", NO, YES, ()))
        states = [(STANDING[0], (place, 3), (17,)) for place in (1, 2, 3)]
        told = ((0, states[0]), (0, states[1]), (0, states[2]), (1, states[2]))
        self.assertEqual(asked_twice(self, askings, whole, STANDING, 100), told)
        for most, many in ((0, 0), (1, 1), (2, 1), (3, 2), (4, 2), (5, 3), (6, 4), (7, 4)):
            self.assertEqual(asked_twice(self, askings, whole, STANDING, most), told[:many])

    def test_alike_whiles(self):
        one = ("while", NO, YES, ())
        self.assertEqual(askings(program(one, one, ("if", YES, (one,), (one,))), STANDING, 9), ((0, STANDING), (1, STANDING), (2, STANDING)))
        self.assertEqual(askings(program(one, ("if", NO, (one,), (one,))), STANDING, 9), ((0, STANDING), (2, STANDING)))

    def test_within_one_another(self):
        inner = ("while", said("ahead j end"), YES, (("go", "j"),))
        whole = program(("begin", "i"), ("while", said("ahead i end"), YES, (("begin", "j"), inner, ("go", "i"))))
        standing = (((0,) * 40, (0,) * 40), (0, 0), (0,))
        told = asked_twice(self, askings, whole, standing, 10 ** 6)
        self.assertEqual([head for head, _ in told].count(0), 41)
        self.assertEqual([head for head, _ in told].count(1), 41 * 40)
        # For each of forty places two steps, and of each of forty two, and all last askings.
        self.assert_ended(whole, standing, 1 + 41 + 40 * (2 + 41 + 40), (standing[0], (40, 40), (0,)))

    def test_three_within_one_another(self):
        cast = (("a",), ("i", "j", "k"), ())
        block = (("go", "k"),)
        for place, outer in (("k", "j"), ("j", "i"), ("i", None)):
            block = (("begin", place), ("while", ("ahead", place, "end"), YES, block)) + ((("go", outer),) if outer else ())
        whole = (cast, YES, block, YES)
        standing = ((tuple(range(40)),), (0, 0, 0), ())
        word, steps, goal = run(whole, standing, 10 ** 7)
        self.assertEqual((word, goal), ("ended", (standing[0], (40, 40, 40), ())))
        self.assertEqual(run(whole, standing, steps)[0], "ended")
        self.assertEqual(run(whole, standing, steps - 1)[0], "on")
        self.assertEqual(len(askings(whole, standing, steps)), 41 + 40 * 41 + 1600 * 41)


class MadeTest(RunTest):
    def test_against_another_way_of_running(self):
        for seed in range(150):
            maker = ProgramMaker(CAST, seed)
            whole = maker.program(3)
            for length in (0, 1, 3, 5):
                standing = maker.standing(length)
                most = 60
                steps = []
                for step in steps_of(whole, standing):
                    steps.append(step)
                    if len(steps) > most:
                        break
                for many in {0, 1, 2, 7, most, len(steps), max(0, len(steps) - 1)} - {most + 1}:
                    have = steps[:many]
                    goal = have[-1][2] if have else standing
                    told = ("ended" if len(steps) <= many else "on", len(have), goal)
                    self.assertEqual(shape(run(whole, standing, many)), shape(told))
                    asked = tuple((head, before) for head, before, _ in have if head is not None)
                    self.assertEqual(shape(askings(whole, standing, many)), shape(asked))
                self.assertEqual(len(heads_of(whole)) > 0 or askings(whole, standing, 99) == (), True)


if __name__ == "__main__":
    unittest.main()
