import unittest

from eachplace.holding import holds
from eachplace.legs import along, legs_of
from eachplace.programs import heads_of
from eachplace.runs import askings, run
from eachplace.sayingtexts import read_saying
from tests.helpers import ProgramMaker, asked_twice, shape, small_standings

CAST = (("a", "b"), ("i", "j"), ("c",))
STANDING = (((1, -2, 3), (7, 8, 9)), (1, 3), (17,))
YES = ("and", ())
NO = ("or", ())
GO = ("go", "i")


def program(*deeds, cast=CAST):
    return (cast, YES, tuple(deeds), YES)


def loop(*deeds, asked=("ahead", "i", "end")):
    return ("while", asked, YES, deeds)


def fork(first, second, asked=("ahead", "i", "j")):
    return ("if", asked, tuple(first), tuple(second))


class LegsTest(unittest.TestCase):
    def assert_legs(self, whole, *legs):
        told = asked_twice(self, legs_of, whole)
        self.assertEqual(shape(told), shape(tuple(legs)))

    def test_without_whiles(self):
        self.assert_legs(program(), (None, (), None))
        self.assert_legs(program(GO, GO), (None, (), None))

    def test_ifs_alone(self):
        self.assert_legs(program(fork([GO], [])), (None, (False,), None), (None, (True,), None))
        self.assert_legs(program(fork([], []), GO, fork([], [])), *((None, (one, other), None) for one in (False, True) for other in (False, True)))
        self.assert_legs(program(fork([fork([], [])], [GO])), (None, (False,), None), (None, (True, False), None), (None, (True, True), None))
        self.assert_legs(program(fork([], [fork([], [])])), (None, (False, False), None), (None, (False, True), None), (None, (True,), None))

    def test_also_such_as_no_standing_goes_along(self):
        self.assert_legs(program(fork([], [], YES), fork([], [], NO)), *((None, (one, other), None) for one in (False, True) for other in (False, True)))
        never = program(loop(asked=NO))
        self.assert_legs(never, (None, (), 0), ((0, False), (), None), ((0, True), (), 0))

    def test_one_while(self):
        self.assert_legs(program(GO, loop(GO)), (None, (), 0), ((0, False), (), None), ((0, True), (), 0))
        self.assert_legs(program(loop()), (None, (), 0), ((0, False), (), None), ((0, True), (), 0))

    def test_whiles_one_behind_another(self):
        self.assert_legs(
            program(loop(GO), loop(GO)),
            (None, (), 0), ((0, False), (), 1), ((0, True), (), 0), ((1, False), (), None), ((1, True), (), 1),
        )

    def test_whiles_within_one_another(self):
        self.assert_legs(
            program(loop(GO, loop(loop(), GO))),
            (None, (), 0), ((0, False), (), None), ((0, True), (), 1), ((1, False), (), 0), ((1, True), (), 2), ((2, False), (), 1), ((2, True), (), 2),
        )
        self.assert_legs(
            program(loop(loop(), loop())),
            (None, (), 0), ((0, False), (), None), ((0, True), (), 1), ((1, False), (), 2), ((1, True), (), 1), ((2, False), (), 0), ((2, True), (), 2),
        )

    def test_whiles_within_ifs(self):
        self.assert_legs(
            program(fork([loop(GO)], [GO]), fork([], [])),
            (None, (False, False), None), (None, (False, True), None), (None, (True,), 0),
            ((0, False), (False,), None), ((0, False), (True,), None), ((0, True), (), 0),
        )
        self.assert_legs(
            program(fork([loop()], [loop()])),
            (None, (False,), 1), (None, (True,), 0), ((0, False), (), None), ((0, True), (), 0), ((1, False), (), None), ((1, True), (), 1),
        )

    def test_ifs_within_whiles(self):
        self.assert_legs(
            program(loop(fork([GO], []), GO, fork([loop()], []))),
            (None, (), 0), ((0, False), (), None),
            ((0, True), (False, False), 0), ((0, True), (False, True), 1), ((0, True), (True, False), 0), ((0, True), (True, True), 1),
            ((1, False), (), 0), ((1, True), (), 1),
        )

    def test_sorted(self):
        def key(leg):
            start, choices, _ = leg
            return (-1, False) if start is None else start, choices

        for seed in range(120):
            whole = ProgramMaker(CAST, seed).program(3)
            legs = legs_of(whole)
            self.assertEqual(list(legs), sorted(legs, key=key))
            self.assertEqual(len(set(map(key, legs))), len(legs))
            heads = range(len(heads_of(whole)))
            starts = {None} | {(head, truth) for head in heads for truth in (False, True)}
            self.assertEqual({start for start, _, _ in legs}, starts)
            for start, choices, goal in legs:
                self.assertIs(type(choices), tuple)
                self.assertTrue(all(type(choice) is bool for choice in choices))
                self.assertTrue(goal is None or type(goal) is int and goal in heads)
                self.assertTrue(start is None or type(start) is tuple and type(start[0]) is int and type(start[1]) is bool)


class AlongTest(unittest.TestCase):
    def assert_along(self, whole, leg, standing, goal):
        self.assertIn(leg, legs_of(whole))
        self.assertEqual(shape(asked_twice(self, along, whole, leg, standing)), shape(goal))

    def test_deeds(self):
        gone = (((7, -2, 3), (7, 8, 9)), (0, 1), (1,))
        whole = program(("set", "c", (("a", "i"), 3)), ("stand", "j", "i"), ("begin", "i"), ("put", "a", "i", (("b", "i"), 0)))
        self.assert_along(whole, (None, (), None), STANDING, gone)
        self.assert_along(program(), (None, (), None), STANDING, STANDING)

    def test_askings(self):
        whole = program(loop(GO))
        gone = (STANDING[0], (2, 3), (17,))
        self.assert_along(whole, (None, (), 0), STANDING, STANDING)
        self.assert_along(whole, ((0, True), (), 0), STANDING, gone)
        self.assert_along(whole, ((0, False), (), None), STANDING, None)
        ended = (STANDING[0], (3, 3), (17,))
        self.assert_along(whole, ((0, False), (), None), ended, ended)
        self.assert_along(whole, ((0, True), (), 0), ended, None)

    def test_ifs(self):
        asked = read_saying(CAST, "less a.i 0")
        whole = program(fork([GO], [("begin", "i")], asked), fork([("set", "c", (None, 0))], [], asked))
        self.assert_along(whole, (None, (True, False), None), STANDING, (STANDING[0], (2, 3), (17,)))
        # The second asks behind what the first one did.
        self.assert_along(whole, (None, (True, True), None), STANDING, None)
        self.assert_along(whole, (None, (False, False), None), STANDING, None)
        self.assert_along(whole, (None, (False, True), None), STANDING, None)
        other = (STANDING[0], (2, 3), (17,))
        self.assert_along(whole, (None, (False, False), None), other, (STANDING[0], (0, 3), (17,)))

    def test_no_places(self):
        empty = (((), ()), (0, 0), (17,))
        whole = program(loop(GO, asked=YES), ("begin", "j"))
        self.assert_along(whole, ((0, True), (), 0), empty, empty)
        self.assert_along(whole, ((0, False), (), None), empty, None)

    def test_just_one_leg_is_gone_along(self):
        cast = (("a",), ("i",), ("c",))
        standings = [one for length in range(3) for one in small_standings(cast, length, (0, 1))]
        for seed in range(60):
            whole = ProgramMaker(cast, seed).program(3)
            legs = legs_of(whole)
            starts = [None] + list(range(len(heads_of(whole))))
            for standing in standings:
                for start in starts:
                    mine = [leg for leg in legs if (leg[0] if leg[0] is None else leg[0][0]) == start]
                    self.assertEqual(len([leg for leg in mine if along(whole, leg, standing) is not None]), 1)

    def test_runs_go_by_legs(self):
        for seed in range(120):
            maker = ProgramMaker(CAST, seed)
            whole = maker.program(3)
            legs = legs_of(whole)
            for length in (0, 1, 2, 4):
                standing = maker.standing(length)
                asked = askings(whole, standing, 80)
                at = None
                for head, state in asked + ((None, None),):
                    mine = [leg for leg in legs if leg[0] is None] if at is None else [leg for leg in legs if leg[0] is not None and leg[0][0] == at]
                    gone = [(leg[2], along(whole, leg, standing)) for leg in mine]
                    gone = [(goal, to) for goal, to in gone if to is not None]
                    self.assertEqual(len(gone), 1)
                    if head is not None:
                        self.assertEqual(gone, [(head, state)])
                        at, standing = head, state
                # Behind the last asking a run that has ended is at the end.
                word, _, last = run(whole, standing, 80)
                if word == "ended" and at is None:
                    self.assertEqual(gone, [(None, last)])

    def test_what_was_asked_is_so(self):
        for seed in range(60):
            maker = ProgramMaker(CAST, seed)
            whole = maker.program(2)
            heads = heads_of(whole)
            for leg in legs_of(whole):
                standing = maker.standing(3)
                if leg[0] is not None and along(whole, leg, standing) is not None:
                    self.assertIs(holds(CAST, standing, heads[leg[0][0]][1]), leg[0][1])


if __name__ == "__main__":
    unittest.main()
