import unittest

from eachplace.deciding import decided
from eachplace.desk import Desk
from eachplace.errors import EachError, NoRow, NoText, TooWide
from eachplace.holding import holds
from eachplace.least import least_break
from eachplace.sayings import atoms_in, needed
from eachplace.sayingtexts import read_saying, show_saying, show_sum
from eachplace.standings import length_of, size_of
from eachplace.standingtexts import read_standing, show_cast, show_standing
from eachplace.turnings import turned
from tests.helpers import Maker, odd_things
from tests.test_carrying import turnings_of

CAST = (("a", "b"), ("i", "j"), ("c",))
STANDING = "a 1 -2 3 / b 7 8 9 / i 1 / j 3 / c 17"


def show_turning(turning):
    return " ".join(part if isinstance(part, str) else str(part) if isinstance(part, int) else show_sum(part) for part in turning)


class DeskTest(unittest.TestCase):
    def assert_refused(self, desk, row, error=NoRow):
        """It is refused, and answers all the same behind it."""
        before = desk.say(f"at {STANDING} : same a.i -2")
        with self.assertRaises(error) as caught:
            desk.say(row)
        self.assertIs(type(caught.exception), error, row)
        self.assertIsInstance(caught.exception, EachError)
        self.assertNotIsInstance(caught.exception, NoText)
        self.assertGreater(len(str(caught.exception)), 0)
        self.assertEqual(desk.say(f"at {STANDING} : same a.i -2"), before)

    def assert_said(self, desk, row, answer):
        self.assertEqual(desk.say(row), answer, row)
        self.assertEqual(desk.say(row), answer, row)


class RowsTest(DeskTest):
    def test_at(self):
        desk = Desk(CAST)
        for saying, answer in (
            ("same a.i -2", "yes"), ("same a.j 0", "yes"), ("less c 17", "no"), ("each x most a.x c", "yes"), ("nexts a less", "no"),
            ("pairs x y less b.x b.y", "yes"), ("and ( )", "yes"), ("or ( )", "no"), ("next i end", "no"), ("not next i j", "yes"),
        ):
            self.assert_said(desk, f"at {STANDING} : {saying}", answer)
        self.assert_said(desk, "at a / b / i 0 / j 0 / c -5 : each x less a.x c", "yes")
        self.assert_said(desk, "at a / b / i 0 / j 0 / c -5 : same c -5", "yes")

    def test_all(self):
        desk = Desk(CAST)
        for saying in ("most c c", "if nexts a most pairs x y most a.x a.y", "and ( )", "or ( ahead i j here i j ahead j i )"):
            self.assert_said(desk, f"all {saying}", "holds")
        for text in ("most c 5", "or ( )", "nexts a less", "each x same a.x b.x", "not next i j", "less a.i a.j"):
            answer = desk.say(f"all {text}")
            word, _, standing = answer.partition(" ")
            self.assertEqual(word, "broken")
            self.assertIs(holds(CAST, read_standing(CAST, standing), read_saying(CAST, text)), False)
            self.assert_said(desk, f"all {text}", answer)

    def test_least(self):
        desk = Desk(CAST)
        for text, answer in (
            ("most c c", "holds"), ("nexts a less", "2 0"), ("or ( )", "0 0"), ("most c 5", "0 6"), ("each x most a.x 4", "1 5"),
            ("pairs x y less a.x a.y+1", "2 1"), ("not ahead i end", "1 0"), ("if same a.i 7 same a.j 7", "1 7"), ("not next i j", "1 0"),
            ("most c 999999999", "0 1000000000"), ("if ahead i j not ahead j end", "2 0"),
        ):
            self.assert_said(desk, f"least {text}", answer)

    def test_needs(self):
        desk = Desk(CAST)
        for text, answer in (
            ("most c c", "2 1"), ("and ( )", "2 0"), ("each x most a.x c", "3 1"), ("nexts a less", "4 1"), ("not nexts a less", "2 1"),
            ("if each x less a.x 0 pairs x y and ( ahead x y here x y )", "4 3"), ("or ( next i j next j i )", "4 2"),
        ):
            self.assert_said(desk, f"needs {text}", answer)
        many = "and ( " + "nexts a less " * 50 + ")"
        self.assert_said(desk, f"needs {many}", "102 50")

    def test_over(self):
        desk = Desk(CAST)
        for turning, answer in (
            ("changed a i 5", "a 1 5 3 / b 7 8 9 / i 1 / j 3 / c 17"), ("changed b i a.i-1", "a 1 -2 3 / b 7 -3 9 / i 1 / j 3 / c 17"),
            ("changed a end c", STANDING), ("changed a j c", STANDING), ("exchanged a i end", STANDING), ("exchanged b i i", STANDING),
            ("turned", "a 3 -2 1 / b 9 8 7 / i 1 / j 3 / c 17"), ("moved 5", "a 6 3 8 / b 12 13 14 / i 1 / j 3 / c 17"),
            ("moved -5", "a -4 -7 -2 / b 2 3 4 / i 1 / j 3 / c 17"), ("moved 0", STANDING), ("moved 999999999", "a 1000000000 999999997 1000000002 / b 1000000006 1000000007 1000000008 / i 1 / j 3 / c 17"),
            ("front i", "a 1 / b 7 / i 1 / j 1 / c 17"), ("front end", STANDING), ("back i", "a -2 3 / b 8 9 / i 0 / j 2 / c 17"),
            ("back end", "a / b / i 0 / j 0 / c 17"),
        ):
            self.assert_said(desk, f"over {turning} : {STANDING}", answer)
        self.assert_said(desk, "over exchanged a i j : a 1 2 / b 3 4 / i 0 / j 1 / c 0", "a 2 1 / b 3 4 / i 0 / j 1 / c 0")

    def test_made_ones(self):
        maker = Maker(CAST, 41)
        desk = Desk(CAST)
        for turn in range(150):
            saying, standing = maker.saying(1 + turn % 4), maker.standing(turn % 5)
            text, shown = show_saying(saying), show_standing(CAST, standing)
            self.assert_said(desk, f"at {shown} : {text}", "yes" if holds(CAST, standing, saying) else "no")
            self.assert_said(desk, f"needs {text}", f"{needed(CAST, saying)} {atoms_in(saying)}")
            if needed(CAST, saying) <= 4 and atoms_in(saying) <= 16:
                found = least_break(CAST, saying)
                self.assert_said(desk, f"least {text}", "holds" if found is None else f"{length_of(found[0])} {size_of(found[0])}")
                told = decided(CAST, saying)
                self.assert_said(desk, f"all {text}", "holds" if told[0] == "holds" else f"broken {show_standing(CAST, told[1])}")
            for turning in list(turnings_of(CAST, (maker.sum(), maker.sum())))[turn % 7::7]:
                answer = show_standing(CAST, turned(CAST, standing, turning))
                self.assert_said(desk, f"over {show_turning(turning)} : {shown}", answer)


class CastsTest(DeskTest):
    def test_another_cast(self):
        desk = Desk(CAST)
        self.assert_said(desk, "needs most a.i c", "2 1")
        self.assertEqual(desk.say("cast row u place number w"), "ok")
        self.assert_said(desk, "needs most u.end w", "0 1")
        self.assert_said(desk, "at u 1 2 / w 5 : each x less u.x w", "yes")
        self.assert_said(desk, "over back end : u 1 2 / w 5", "u / w 5")
        for row in ("needs most a.i c", f"at {STANDING} : most c c", f"over turned : {STANDING}", "all same c c", "least same c c"):
            with self.assertRaises(NoRow):
                desk.say(row)
        self.assertEqual(desk.say(f"cast {show_cast(CAST)}"), "ok")
        self.assert_said(desk, f"over turned : {STANDING}", "a 3 -2 1 / b 9 8 7 / i 1 / j 3 / c 17")

    def test_wrong_casts(self):
        desk = Desk(CAST)
        for text in (
            "", "row", "row place number", "row a place i", "row a place i number c number", "row b a place number", "row a place a number",
            "row a  place number", "row a place number ", " row a place number", "row a place number\n", "row A place number", "row end place number",
            "place i row a number", "row a place i number c : ", "row abcdefghi place number",
        ):
            self.assert_refused(desk, f"cast {text}")
        for row in ("cast", "cast ", " cast row a place number", "Cast row a place number", "castrow a place number", "cast\nrow a place number"):
            self.assert_refused(desk, row)

    def test_any_size(self):
        desk = Desk((("a",), (), ()))
        self.assertEqual(desk.say("cast row a b d e f place i j k l m number c"), "ok")
        self.assert_said(desk, "needs most c c", "5 1")

    def test_two_desks(self):
        one, other = Desk(CAST), Desk(CAST)
        one.say("cast row z place number")
        self.assert_said(other, "needs most a.i c", "2 1")
        self.assert_said(one, "all nexts z most", "broken z 1 0")
        with self.assertRaises(NoRow):
            one.say("needs most a.i c")
        with self.assertRaises(NoRow):
            other.say("all nexts z most")


class RefusedTest(DeskTest):
    RIGHT = (
        "cast row a b place i j number c", f"at {STANDING} : most a.i c+1", "all if ahead i j not here i j", "least each x most a.x c",
        "needs and ( most c c here i j )", f"over changed a i c+1 : {STANDING}", f"over exchanged a i j : {STANDING}", f"over turned : {STANDING}",
        f"over moved -12 : {STANDING}", f"over front i : {STANDING}", f"over back end : {STANDING}",
    )

    def test_nearly_so(self):
        for right in self.RIGHT:
            Desk(CAST).say(right)
            desk = Desk(CAST)
            for row in (
                f" {right}", f"{right} ", f"{right}\n", f"\n{right}", f"{right} {right}", right.replace(" ", "  ", 1), right[:-1] + "~", right.upper(),
                right.partition(" ")[0], right.partition(" ")[0] + " ", right.partition(" ")[2], right.capitalize(), f"{right} :", f": {right}",
                right.replace(" ", "\n", 1), right.replace(" ", "\t", 1), f"{right} : {right}", f"then {right}",
            ):
                self.assert_refused(desk, row)
            words = right.split(" ")
            for at in range(len(words)):
                row = " ".join(words[:at] + words[at + 1:])
                # A number less in a row of three, or a name less in a cast, may be right again.
                if words[at] not in ("a", "b", "i", "j", "c", "not"):
                    self.assert_refused(desk, row)
            for at in range(len(words) + 1):
                self.assert_refused(desk, " ".join(words[:at] + ["most"] + words[at:]))

    def test_colons(self):
        desk = Desk(CAST)
        for row in (
            f"at {STANDING} most c c", f"at {STANDING}: most c c", f"at {STANDING} :most c c", f"at {STANDING} : ", f"at : most c c", f"at most c c : {STANDING}",
            f"at {STANDING} : : most c c", f"at {STANDING} : most c c : most c c", f"over turned {STANDING}", f"over {STANDING} : turned", f"over : {STANDING}",
            f"over turned :  {STANDING}", f"over turned  : {STANDING}", f"over turned : {STANDING} : turned", f"all : most c c", f"needs {STANDING} : most c c",
        ):
            self.assert_refused(desk, row)

    def test_turnings(self):
        desk = Desk(CAST)
        for turning in (
            "changed", "changed a", "changed a i", "changed a i c c", "changed i i c", "changed c i c", "changed a a c", "changed a c 5", "changed a i d",
            "changed a i a", "changed a i a.x", "changed a i +5", "changed a i 05", "changed end i 5", "changed a x 5", "exchanged a i", "exchanged i i j",
            "exchanged a i j j", "exchanged a i a", "exchanged a i c", "turned a", "turned i", "moved", "moved c", "moved 5 5", "moved +5", "moved 05", "moved -0",
            "moved 5.0", "moved a.i", "front", "front a", "front c", "front x", "front i j", "front 1", "back", "back a", "back i i", "joined", "put a i 5", "swap a i j", "go i",
            "moved 1234567890123456789012345678901",
        ):
            self.assert_refused(desk, f"over {turning} : {STANDING}")

    def test_other_casts(self):
        desk = Desk(CAST)
        for row in (
            "all most d d", "all same z.i 0", "all ahead i k", "least nexts i most", "needs each c most a.c 0", "at a 1 / i 0 / j 0 / c 0 : most c c",
            "at a 1 / b 1 / i 0 / j 2 / c 0 : most c c", "at a 1 / b 1 2 / i 0 / j 0 / c 0 : most c c", "at b 1 / a 1 / i 0 / j 0 / c 0 : most c c",
            "at a 1 / b 1 / i 0 / j 0 : most c c", "at a 1 / b 1 / i 0 / j 0 / c 0 / c 0 : most c c", "over turned : a 1 2",
        ):
            self.assert_refused(desk, row)

    def test_of_anything(self):
        desk = Desk(CAST)
        for thing in odd_things():
            self.assert_refused(desk, thing)
        for thing in (["all", "most c c"], ("all most c c",), {"all": "most c c"}, 5, b"all most c c"):
            self.assert_refused(desk, thing)
        for word in ("all", "least", "needs", "cast", "at", "over"):
            for thing in odd_things():
                if isinstance(thing, str):
                    self.assert_refused(desk, f"{word} {thing}")

    def test_too_wide(self):
        desk = Desk(CAST)
        def joined(part, many):
            return "or ( " + " ".join([part] * many) + " )"

        each = "each x less a.x 0"
        self.assertEqual(desk.say(f"all {joined(each, 4)}").split(" ")[0], "broken")
        self.assert_refused(desk, f"all {joined(each, 5)}", TooWide)
        self.assertEqual(desk.say(f"all {joined('less c 0', 40)}").split(" ")[0], "broken")
        self.assert_refused(desk, f"all {joined('less c 0', 41)}", TooWide)
        self.assert_said(desk, f"least {joined(each, 2)}", "1 0")
        self.assert_refused(desk, f"least {joined(each, 3)}", TooWide)
        self.assert_said(desk, f"least {joined('less c 0', 16)}", "0 0")
        self.assert_refused(desk, f"least {joined('less c 0', 17)}", TooWide)
        for many in (5, 41, 60):
            self.assert_said(desk, f"needs {joined(each, many)}", f"{2 + many} {many}")
            self.assert_said(desk, f"at {STANDING} : {joined(each, many)}", "no")
        # What is no row is refused as none, however wide.
        self.assert_refused(desk, f"all {joined('less d 0', 41)}")


if __name__ == "__main__":
    unittest.main()
