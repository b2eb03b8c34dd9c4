"""Names of rows, places and numbers."""

LONGEST_NAME = 8

WORDS = (
    "end", "most", "less", "same", "unlike", "ahead", "here", "next", "not", "and", "or", "if",
    "each", "pairs", "nexts", "least", "more", "row", "place", "number", "put", "swap", "set",
    "stand", "begin", "go", "while", "kept", "changed", "exchanged", "turned", "moved", "front", "back",
)

LETTERS = "xyzabcdefghijklmnopqrstuvw"


def is_name(thing):
    """Whether anything is a name."""
    return (
        isinstance(thing, str)
        and 1 <= len(thing) <= LONGEST_NAME
        and all("a" <= sign <= "z" for sign in thing)
        and thing not in WORDS
    )


def free_names(taken, many):
    """A list of so many names, none of those that are taken."""
    found = []
    number = 0
    while len(found) < many:
        text = numbered_text(number)
        if is_name(text) and text not in taken:
            found.append(text)
        number += 1
    return found


def numbered_text(number):
    """A text of small letters for each number from 0 on, no two the same, the short ones first."""
    text = LETTERS[number % 26]
    while number >= 26:
        number = number // 26 - 1
        text = LETTERS[number % 26] + text
    return text
