import unittest

from eachplace.errors import EachError, NoText
from eachplace.programs import is_program
from eachplace.programtexts import read_program, show_program
from eachplace.sayingtexts import read_saying
from tests.helpers import ProgramMaker, asked_twice, nested, odd_things, shape
from tests.texts import RIGHT, rows

CAST = (("a", "b"), ("i", "j"), ("c",))
YES = ("and", ())
HEAD = "row a b place i j number c\nfirst and ( )"
LAST = "last and ( )"
DEEDS = (
    (("put", "a", "i", ("c", 1)), "put a i c+1"),
    (("put", "b", "end", (("a", "j"), -5)), "put b end a.j-5"),
    (("put", "b", "j", (None, 0)), "put b j 0"),
    (("put", "a", "i", (None, -(10 ** 30 - 1))), "put a i -" + "9" * 30),
    (("swap", "a", "i", "end"), "swap a i end"),
    (("swap", "b", "j", "j"), "swap b j j"),
    (("set", "c", (("b", "end"), 0)), "set c b.end"),
    (("set", "c", (None, -12)), "set c -12"),
    (("stand", "i", "j"), "stand i j"),
    (("stand", "j", "end"), "stand j end"),
    (("begin", "i"), "begin i"),
    (("go", "j"), "go j"),
    (("if", YES, (), ()), "if and ( )\nelse\nend"),
    (("if", ("here", "i", "j"), (("go", "i"),), ()), "if here i j\ngo i\nelse\nend"),
    (("if", ("here", "i", "j"), (), (("go", "i"), ("go", "j"))), "if here i j\nelse\ngo i\ngo j\nend"),
    (("while", ("ahead", "i", "end"), ("nexts", "a", "less"), ()), "while ahead i end\nkept nexts a less\nend"),
    (("while", ("ahead", "i", "end"), ("next", "i", "j"), (("go", "i"),)), "while ahead i end\nkept next i j\ngo i\nend"),
)


def program(*deeds, first=YES, last=YES, cast=CAST):
    return (cast, first, tuple(deeds), last)


class TextsTest(unittest.TestCase):
    def assert_text(self, whole, text):
        self.assertTrue(is_program(whole))
        self.assertEqual(asked_twice(self, show_program, whole), text)
        self.assertEqual(shape(asked_twice(self, read_program, text)), shape(whole))

    def assert_none(self, text):
        with self.assertRaises(NoText) as caught:
            read_program(text)
        self.assertIs(type(caught.exception), NoText)
        self.assertIsInstance(caught.exception, EachError)
        self.assertGreater(len(str(caught.exception)), 0)


class WrittenTest(TextsTest):
    def test_no_deeds(self):
        self.assert_text(program(), f"{HEAD}\n{LAST}")
        self.assert_text(((("a",), (), ()), YES, (), ("or", ())), "row a place number\nfirst and ( )\nlast or ( )")

    def test_each_deed(self):
        for deed, text in DEEDS:
            self.assert_text(program(deed), f"{HEAD}\n{text}\n{LAST}")
        deeds, texts = zip(*DEEDS)
        self.assert_text(program(*deeds), "\n".join([HEAD, *texts, LAST]))

    def test_within_one_another(self):
        for deed, text in DEEDS:
            outer = ("if", ("here", "i", "end"), (deed,), (deed, deed))
            shown = f"if here i end\n{text}\nelse\n{text}\n{text}\nend"
            self.assert_text(program(outer), f"{HEAD}\n{shown}\n{LAST}")
            loop = ("while", ("less", ("c", 0), (None, 5)), ("each", "x", ("most", (("a", "x"), 0), ("c", 0))), (outer, deed))
            self.assert_text(program(loop, deed), f"{HEAD}\nwhile less c 5\nkept each x most a.x c\n{shown}\n{text}\nend\n{text}\n{LAST}")

    def test_what_is_said(self):
        for text in ("each x if ahead x i most a.x c", "pairs x y less a.x a.y-1", "nexts b least", "not next i end", "or ( )", "if and ( ) or ( most c c )"):
            saying = read_saying(CAST, text)
            self.assert_text(program(first=saying, last=saying), f"row a b place i j number c\nfirst {text}\nlast {text}")

    def test_names_that_are_words_of_texts_alone(self):
        cast = (("first", "last"), ("else",), ("cast",))
        deeds = (("put", "first", "else", ("cast", 0)), ("go", "else"), ("if", ("here", "else", "end"), (), ()))
        text = "row first last place else number cast\nfirst nexts first most\nput first else cast\ngo else\nif here else end\nelse\nend\nlast nexts last most"
        self.assert_text((cast, ("nexts", "first", "most"), deeds, ("nexts", "last", "most")), text)

    def test_known_ones(self):
        for text in RIGHT.values():
            self.assert_text(read_program(text), text)

    def test_made_ones(self):
        for seed in range(150):
            whole = ProgramMaker(CAST, seed).program(3)
            self.assert_text(whole, show_program(whole))

    def test_deep_ones(self):
        inner = ("if", YES, (), ())
        for wrap in (lambda deed: ("if", YES, (deed,), ()), lambda deed: ("if", YES, (), (deed,)), lambda deed: ("while", YES, YES, (deed,))):
            whole = program(nested(wrap, 27, inner))
            self.assert_text(whole, show_program(whole))
        saying = nested(lambda part: ("not", part), 25, YES)
        whole = program(nested(lambda deed: ("while", YES, YES, (deed,)), 3, ("if", saying, (), ())))
        self.assert_text(whole, show_program(whole))


class RefusedTest(TextsTest):
    WHOLE = rows("""
        row a b place i j number c
        first each x same a.x b.x
        begin i
        set c 5
        while ahead i end
        kept nexts a most
        if less a.i c+1
        put a i c
        swap b i j
        else
        stand j end
        end
        go i
        end
        last and ( most c 9 here i end )
    """)

    def test_rows_left_out(self):
        read_program(self.WHOLE)
        parts = self.WHOLE.split("\n")
        plain = ("begin", "set", "put", "swap", "stand", "go")
        for at, row in enumerate(parts):
            left = "\n".join(parts[:at] + parts[at + 1:])
            if row.split(" ")[0] in plain:
                self.assertEqual(show_program(read_program(left)), left)
            else:
                self.assert_none(left)

    def test_rows_told_twice(self):
        parts = self.WHOLE.split("\n")
        plain = ("begin", "set", "put", "swap", "stand", "go")
        for at, row in enumerate(parts):
            twice = "\n".join(parts[:at + 1] + parts[at:])
            if row.split(" ")[0] in plain:
                self.assertEqual(show_program(read_program(twice)), twice)
            else:
                self.assert_none(twice)

    def test_rows_exchanged(self):
        parts = self.WHOLE.split("\n")
        for one, other in ((0, 1), (1, 2), (0, 14), (1, 14), (13, 14), (4, 5), (5, 6), (9, 6), (9, 11), (4, 13), (3, 5), (2, 0)):
            gone = list(parts)
            gone[one], gone[other] = gone[other], gone[one]
            # An end of an if and of a while are written the same.
            if parts[one] != parts[other]:
                self.assert_none("\n".join(gone))

    def test_words_more_or_less(self):
        parts = self.WHOLE.split("\n")
        for at, row in enumerate(parts):
            words = row.split(" ")
            for spot in range(len(words) + 1):
                # A cast may have a name more.
                for word in ("end", "(", "", "5") + (("zz",) if at > 0 else ()):
                    gone = " ".join(words[:spot] + [word] + words[spot:])
                    self.assert_none("\n".join(parts[:at] + [gone] + parts[at + 1:]))
            for spot in range(len(words)):
                gone = " ".join(words[:spot] + words[spot + 1:])
                self.assert_none("\n".join(parts[:at] + [gone] + parts[at + 1:]))

    def test_blanks_and_line_ends(self):
        for text in (
            f"{self.WHOLE}\n", f"\n{self.WHOLE}", f"{self.WHOLE} ", f" {self.WHOLE}", self.WHOLE.replace("\n", "\n\n", 1), self.WHOLE.replace("\n", " \n", 1),
            self.WHOLE.replace("\n", "\n ", 1), self.WHOLE.replace("else", "else "), self.WHOLE.replace("\nelse", "\n else"), self.WHOLE.replace("put a", "put  a"),
            self.WHOLE.replace("\n", "\t"), self.WHOLE.replace("\n", " "), self.WHOLE.replace("\n", " / "), f"{self.WHOLE}\n{LAST}", f"{self.WHOLE}\ngo i", "", "\n", LAST,
            HEAD, HEAD + "\n", HEAD.split("\n")[0], f"{self.WHOLE}\n{self.WHOLE}", self.WHOLE.upper(), self.WHOLE.replace("\n", "\r\n"),
        ):
            self.assert_none(text)

    def test_wrong_rows(self):
        for row in (
            "put", "put a", "put a i", "put a i d", "put i i c", "put a c c", "put a x c", "put a i c c", "put a i c+0", "put a i +5", "put a i 05", "put a i a.c",
            "put a i " + "1" * 31, "swap a i", "swap a i j j", "swap c i j", "swap a i a", "set c", "set a 5", "set i 5", "set c 5 5", "set d 5", "set end 5",
            "stand i", "stand end i", "stand i a", "stand c i", "stand i x", "begin", "begin end", "begin a", "begin c", "begin i i", "go", "go end", "go a", "go c 1",
            "if and ( )", "if and ( )\nend", "if and ( )\nelse", "if and ( )\nelse\nelse\nend", "if\nelse\nend", "if each x most a.x c\nelse\nend", "if next i j\nelse\nend",
            "if and ( )\nkept and ( )\nelse\nend", "if and ( )\nelse go i\nend", "else", "end", "kept and ( )", "while and ( )\nend", "while and ( )\nkept and ( )",
            "while and ( )\nkept\nend", "while\nkept and ( )\nend", "while nexts a less\nkept and ( )\nend", "while not next i j\nkept and ( )\nend",
            "while and ( )\nkept and ( )\nelse\nend", "while and ( )\ngo i\nkept and ( )\nend", "while and ( )\nkept most d d\nend", "changed a i c", "first and ( )", "last and ( )",
            "moved 5", "stop", "(", "and ( )", "pass", "go i\n\ngo i", "", " ", "go i ", " go i", "Go i", "row a place number",
            "if and ( )\nelse\nend end", "if and ( )\nelse\nend\nend", "while and ( )\nkept and ( )\nend\nend",
        ):
            self.assert_none(f"{HEAD}\n{row}\n{LAST}")
        for first in ("first", "first ", "first or", "First and ( )", "first most d d", "first  and ( )", "last and ( )", "and ( )", "first and ( ) and ( )"):
            self.assert_none(f"row a b place i j number c\n{first}\n{LAST}")
            self.assert_none(f"{HEAD}\n{first.replace('first', 'last').replace('and ( )', 'and (  )')}")
        for cast in ("", "row place number", "row a place i", "row b a place i number", "row a  place i number", "row a place a number", "cast row a place number"):
            self.assert_none(f"{cast}\nfirst and ( )\n{LAST}")

    def test_of_anything(self):
        for thing in odd_things():
            self.assert_none(thing)
            if isinstance(thing, str):
                self.assert_none(f"{HEAD}\n{thing}\n{LAST}")
        for thing in (self.WHOLE.split("\n"), (self.WHOLE,), {self.WHOLE: 1}, self.WHOLE.encode(), read_program(self.WHOLE)):
            self.assert_none(thing)

    def test_without_end(self):
        self.assert_none(f"{HEAD}\n" + "if and ( )\n" * 300)
        self.assert_none(f"{HEAD}\n" + "while and ( )\nkept and ( )\n" * 140)
        self.assert_none(f"{HEAD}\n" + "if and ( )\nelse\n" * 200 + "end\n" * 200 + LAST)


if __name__ == "__main__":
    unittest.main()
