"""Things that several tests hand in."""

import copy

GREAT = 10 ** 40 - 1


def nested(wrap, deep, core):
    """The core, wrapped so many times."""
    thing = core
    for _ in range(deep):
        thing = wrap(thing)
    return thing


def odd_things():
    """Things that are no names, casts, standings, sums, sayings, nor texts of any."""
    return [
        None, True, False, 0, 1, -1, GREAT, -GREAT,
        "", " ", "\n", "~", "A", "(", ")", "most", "end", "x" * 4000, "not " * 1000, "and ( " * 600,
        (), [], {}, ((),), ([],), ({},), [()], {"a": 1}, {1: []}, {None: ()}, {(1, 2): (3,)},
        (None,), (True,), (0,), ("",), ("most",), (("most",),), ((("a",), (), ()),),
        (None, None), (None, None, None), (0, 0, 0), ((), (), ()), ([], [], []), ({}, {}, {}), ("", "", ""),
        [("a",), (), ()], {"rows": ("a",)},
        (("a",), (), (), ()), (("a",), ()), (1, 2, 3, 4, 5, 6),
        nested(lambda t: (t,), 30, ()), nested(lambda t: [t], 30, []), nested(lambda t: {"a": t}, 30, {}),
        nested(lambda t: (t, t), 13, "a"), nested(lambda t: ("not", t), 29, ()), nested(lambda t: ("and", (t,)), 14, 5),
        (0,) * 20000, ("a",) * 20000, [0] * 20000, {k: k for k in range(10000)}, (("a",) * 20000, (), ()),
    ]


def asked_twice(test, function, *handed):
    """What is told; it is told again the same, and nothing handed in is changed."""
    before = copy.deepcopy(handed)
    told = function(*handed)
    again = function(*handed)
    test.assertEqual(again, told)
    test.assertEqual(shape(again), shape(told))
    test.assertEqual(shape(handed), shape(before))
    return told


def shape(thing):
    """A text by which unlike things differ, truths and whole numbers too."""
    return repr(thing)


class Asking:
    """Checks that look at the kind of what is told, not only at its worth."""

    def assert_yes(self, function, *handed):
        self.assertIs(asked_twice(self, function, *handed), True, handed)

    def assert_no(self, function, *handed):
        self.assertIs(asked_twice(self, function, *handed), False, handed)

    def assert_whole(self, number, function, *handed):
        told = asked_twice(self, function, *handed)
        self.assertIs(type(told), int, handed)
        self.assertEqual(told, number, handed)
