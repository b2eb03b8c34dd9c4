"""Names of rows, places and numbers."""

LONGEST_NAME = 8

WORDS = (
    "end", "most", "less", "same", "unlike", "ahead", "here", "next", "not", "and", "or", "if",
    "each", "pairs", "nexts", "least", "more", "row", "place", "number", "put", "swap", "set",
    "stand", "begin", "go", "while", "kept", "changed", "exchanged", "turned", "moved", "front", "back",
)


def is_name(thing):
    """Whether anything is a name."""
    return (
        isinstance(thing, str)
        and 1 <= len(thing) <= LONGEST_NAME
        and all("a" <= sign <= "z" for sign in thing)
        and thing not in WORDS
    )
