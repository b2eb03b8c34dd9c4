"""Texts of programs."""

from eachplace.errors import NoText
from eachplace.programs import PARTS, is_program
from eachplace.sayingtexts import read_saying, read_sum, show_saying, show_sum
from eachplace.standingtexts import read_cast, show_cast

# Nothing is promised of texts of more than thirty deep; a bound keeps reading from running out of calls.
DEEPEST = 60


def show_program(program):
    """The text of a program."""
    cast, first, block, last = program
    rows = [show_cast(cast), f"first {show_saying(first)}"]
    rows.extend(rows_of(block))
    rows.append(f"last {show_saying(last)}")
    return "\n".join(rows)


def rows_of(block):
    """A list of the rows of a block."""
    rows = []
    for deed in block:
        if deed[0] == "if":
            rows.append(f"if {show_saying(deed[1])}")
            rows.extend(rows_of(deed[2]) + ["else"] + rows_of(deed[3]) + ["end"])
        elif deed[0] == "while":
            rows.append(f"while {show_saying(deed[1])}")
            rows.append(f"kept {show_saying(deed[2])}")
            rows.extend(rows_of(deed[3]) + ["end"])
        else:
            rows.append(" ".join([part if isinstance(part, str) else show_sum(part) for part in deed]))
    return rows


class Reader:
    """The rows of a text, and which is read next."""

    def __init__(self, cast, rows):
        self.cast = cast
        self.rows = rows
        self.at = 0

    def next_row(self):
        """The row that is read next; NoText where none is left."""
        if self.at == len(self.rows):
            raise NoText("the program ends too early")
        return self.rows[self.at]

    def read_said(self, word):
        """The saying behind this word, the first one of the next row."""
        found, blank, text = self.next_row().partition(" ")
        if found != word:
            raise NoText("another row stands here")
        self.at += 1
        return read_saying(self.cast, text)

    def read_word(self, word):
        """Goes beyond the next row, which is this word alone."""
        if self.next_row() != word:
            raise NoText("another row stands here")
        self.at += 1

    def read_block(self, deep):
        """The deeds from the next row on, up to a row that begins none."""
        deeds = []
        while True:
            word = self.next_row().partition(" ")[0]
            if word == "if" or word == "while":
                deeds.append(self.read_asking(word, deep))
            elif word in PARTS:
                deeds.append(self.read_plain(word))
            else:
                return tuple(deeds)

    def read_asking(self, word, deep):
        """The if or while that begins with the next row."""
        if deep > DEEPEST:
            raise NoText("no program so deep is read")
        asked = self.read_said(word)
        if word == "if":
            first = self.read_block(deep + 1)
            self.read_word("else")
        else:
            first = self.read_said("kept")
        block = self.read_block(deep + 1)
        self.read_word("end")
        return (word, asked, first, block)

    def read_plain(self, word):
        """The deed of the next row, which asks nothing; whether its names are the cast's isn't asked."""
        parts = self.next_row().split(" ")[1:]
        if len(parts) != len(PARTS[word]):
            raise NoText("a deed has more parts, or fewer")
        self.at += 1
        found = [read_sum(self.cast, part) if kind == "sum" else part for kind, part in zip(PARTS[word], parts)]
        return (word,) + tuple(found)


def read_program(text):
    """The program that is so written; anything else is refused with NoText."""
    if not isinstance(text, str):
        raise NoText("a program is read from a text")
    rows = text.split("\n")
    cast = read_cast(rows[0])
    reader = Reader(cast, rows[1:])
    first = reader.read_said("first")
    block = reader.read_block(1)
    last = reader.read_said("last")
    program = (cast, first, block, last)
    # A program has one text alone, so rows that are left over show here.
    if not is_program(program) or show_program(program) != text:
        raise NoText("this is no program")
    return program
