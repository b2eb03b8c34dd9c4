"""Things that several tests hand in."""

import copy
import itertools
import random

GREAT = 10 ** 40 - 1


def nested(wrap, deep, core):
    """The core, wrapped so many times."""
    thing = core
    for _ in range(deep):
        thing = wrap(thing)
    return thing


def odd_things():
    """Things that are no names, casts, standings, sums, sayings, nor texts of any."""
    return [
        None, True, False, 0, 1, -1, GREAT, -GREAT,
        "", " ", "\n", "~", "A", "(", ")", "most", "end", "x" * 4000, "not " * 1000, "and ( " * 600,
        (), [], {}, ((),), ([],), ({},), [()], {"a": 1}, {1: []}, {None: ()}, {(1, 2): (3,)},
        (None,), (True,), (0,), ("",), ("most",), (("most",),), ((("a",), (), ()),),
        (None, None), (None, None, None), (0, 0, 0), ((), (), ()), ([], [], []), ({}, {}, {}), ("", "", ""),
        [("a",), (), ()], {"rows": ("a",)},
        (("a",), (), (), ()), (("a",), ()), (1, 2, 3, 4, 5, 6),
        nested(lambda t: (t,), 30, ()), nested(lambda t: [t], 30, []), nested(lambda t: {"a": t}, 30, {}),
        nested(lambda t: (t, t), 13, "a"), nested(lambda t: ("not", t), 29, ()), nested(lambda t: ("and", (t,)), 14, 5),
        (0,) * 20000, ("a",) * 20000, [0] * 20000, {k: k for k in range(10000)}, (("a",) * 20000, (), ()),
    ]


def asked_twice(test, function, *handed):
    """What is told; it is told again the same, and nothing handed in is changed."""
    before = copy.deepcopy(handed)
    told = function(*handed)
    again = function(*handed)
    test.assertEqual(again, told)
    test.assertEqual(shape(again), shape(told))
    test.assertEqual(shape(handed), shape(before))
    return told


def shape(thing):
    """A text by which unlike things differ, truths and whole numbers too."""
    return repr(thing)


def small_standings(cast, length, sizes):
    """All standings of the cast of this length whose numbers are of these."""
    for rows in itertools.product(itertools.product(sizes, repeat=length), repeat=len(cast[0])):
        for places in itertools.product(range(length + 1), repeat=len(cast[1])):
            for numbers in itertools.product(sizes, repeat=len(cast[2])):
                yield (rows, places, numbers)


class Asking:
    """Checks that look at the kind of what is told, not only at its worth."""

    def assert_yes(self, function, *handed):
        self.assertIs(asked_twice(self, function, *handed), True, handed)

    def assert_no(self, function, *handed):
        self.assertIs(asked_twice(self, function, *handed), False, handed)

    def assert_whole(self, number, function, *handed):
        told = asked_twice(self, function, *handed)
        self.assertIs(type(told), int, handed)
        self.assertEqual(told, number, handed)


class Maker:
    """Makes right sums and sayings of a cast, the same ones each time."""

    def __init__(self, cast, seed):
        self.cast = cast
        self.dice = random.Random(seed)

    def sum(self, bound=()):
        rows, places, numbers = self.cast
        bases = [None, (self.dice.choice(rows), self.dice.choice([*places, *bound, *bound, "end"]))]
        bases.extend(numbers[:1] and [self.dice.choice(numbers)])
        return (self.dice.choice(bases), self.dice.choice([0, 0, 1, -1, 2, -3]))

    def place(self, bound=()):
        return self.dice.choice([*self.cast[1], *bound, *bound, "end"])

    def saying(self, deep, bound=None):
        inner = bound or ()
        words = ["most", "less", "same", "unlike", "ahead", "here"]
        words += ["not", "and", "or", "if"] * (2 if deep > 1 else 0)
        if bound is None:
            words += ["next", "nexts"]
            words += ["each", "pairs"] * (3 if deep > 1 else 0)
        word = self.dice.choice(words)
        if word in ("most", "less", "same", "unlike"):
            return (word, self.sum(inner), self.sum(inner))
        if word in ("ahead", "here", "next"):
            return (word, self.place(inner), self.place(inner))
        if word == "nexts":
            return (word, self.dice.choice(self.cast[0]), self.dice.choice(["most", "less", "same", "least", "more"]))
        if word == "each":
            return (word, "x", self.saying(deep - 1, ("x",)))
        if word == "pairs":
            return (word, "y", "x", self.saying(deep - 1, ("y", "x")))
        if word == "not":
            return (word, self.saying(deep - 1, bound))
        if word == "if":
            return (word, self.saying(deep - 1, bound), self.saying(deep - 1, bound))
        return (word, tuple(self.saying(deep - 1, bound) for _ in range(self.dice.randrange(4))))

    def standing(self, length):
        rows = tuple(tuple(self.dice.randrange(-3, 4) for _ in range(length)) for _ in self.cast[0])
        places = tuple(self.dice.randrange(length + 1) for _ in self.cast[1])
        return (rows, places, tuple(self.dice.randrange(-3, 4) for _ in self.cast[2]))


class Mixer:
    """Makes sayings in which much hangs together: few rows and places, most words joining others."""

    CASTS = (
        (("a",), ("i", "j", "k"), ()),
        (("a", "b"), ("i", "j"), ("c",)),
        (("a", "b", "e"), ("i",), ("c", "d")),
        (("a",), (), ("c",)),
        (("a",), ("i", "j", "k", "l"), ("c",)),
    )

    def __init__(self, seed):
        self.dice = random.Random(seed)
        self.cast = self.CASTS[seed % len(self.CASTS)]
        self.most = self.dice.choice((0, 1, 1, 3, 10 ** 9 - 1))

    def place(self, bound):
        return self.dice.choice([*self.cast[1], "end", *bound, *bound, *bound])

    def sum(self, bound):
        row = self.dice.choice(self.cast[0])
        base = self.dice.choice([(row, self.place(bound)), (row, self.place(bound)), None, *self.cast[2][:2]])
        return (base, self.dice.randint(-self.most, self.most))

    def atom(self, bound):
        words = ["ahead", "here", "most", "most", "less", "less", "same", "unlike", "unlike"]
        word = self.dice.choice(words + ([] if bound else ["next", "next", "nexts"]))
        if word == "nexts":
            return (word, self.dice.choice(self.cast[0]), self.dice.choice(["most", "less", "same", "least", "more"]))
        if word in ("ahead", "here", "next"):
            return (word, self.place(bound), self.place(bound))
        return (word, self.sum(bound), self.sum(bound))

    def saying(self, deep, bound=()):
        if deep <= 1 or self.dice.random() < 0.1:
            return self.atom(bound)
        word = self.dice.choice(["and", "or", "not", "if", "and", "or"] + ([] if bound else ["each", "each", "pairs", "pairs"]))
        if word == "each":
            return (word, "x", self.saying(deep - 1, ("x",)))
        if word == "pairs":
            return (word, "x", "y", self.saying(deep - 1, ("x", "y")))
        many = {"not": 1, "if": 2}.get(word) or self.dice.randint(2, 3)
        parts = tuple(self.saying(deep - 1, bound) for _ in range(many))
        return (word, *parts) if word in ("not", "if") else (word, parts)

    def claim(self):
        """That of several sayings another one follows."""
        parts = [self.saying(self.dice.randint(1, 3)) for _ in range(self.dice.randint(0, 5))]
        parts = tuple(("not", part) if self.dice.random() < 0.3 else part for part in parts)
        return ("if", ("and", parts), self.saying(self.dice.randint(2, 5)))


class ProgramMaker(Maker):
    """Makes right programs of a cast, the same ones each time."""

    def spot(self):
        return self.dice.choice([*self.cast[1], *self.cast[1], "end"])

    def deed(self):
        rows, places, numbers = self.cast
        words = ["put", "put", "swap"]
        words += ["stand", "begin", "go", "go"] if places else []
        words += ["set"] if numbers else []
        word = self.dice.choice(words)
        if word == "put":
            return (word, self.dice.choice(rows), self.spot(), self.sum())
        if word == "swap":
            return (word, self.dice.choice(rows), self.spot(), self.spot())
        if word == "set":
            return (word, self.dice.choice(numbers), self.sum())
        if word == "stand":
            return (word, self.dice.choice(places), self.spot())
        return (word, self.dice.choice(places))

    def asked(self):
        """A saying without each, pairs, nexts, next."""
        return self.saying(2, bound=("end",))

    def block(self, deep, longest=3):
        deeds = []
        for _ in range(self.dice.randrange(longest + 1)):
            throw = self.dice.random() if deep > 0 else 1
            if throw < 0.2:
                deeds.append(("if", self.asked(), self.block(deep - 1), self.block(deep - 1)))
            elif throw < 0.4:
                deeds.append(("while", self.asked(), self.saying(2), self.block(deep - 1)))
            else:
                deeds.append(self.deed())
        return tuple(deeds)

    def program(self, deep=2):
        return (self.cast, self.saying(3), self.block(deep), self.saying(3))
