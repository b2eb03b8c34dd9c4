"""Flows: the deeds of a program, each with what comes behind it."""


class Spot:
    """A deed on its way. Where it asks, yes and no lead on; else yes alone. None is the end of the program."""

    def __init__(self, deed, no):
        self.deed = deed
        self.no = no
        self.yes = None
        # The number of a while among the heads.
        self.head = None

    def asks(self):
        """Whether the deed is an if or a while."""
        return self.deed[0] == "if" or self.deed[0] == "while"

    def behind_asking(self, truth):
        """The spot behind, when the asking has told this."""
        return self.yes if truth else self.no


class Flow:
    """Where a program begins, and the spots of its heads in their order."""

    def __init__(self, begin, heads):
        self.begin = begin
        self.heads = heads


def flow_of(program):
    """The flow of a program."""
    found = []
    begin = laid_block(program[2], None, found)
    # Whiles are found from behind, each one behind those within it.
    heads = found[::-1]
    for number, spot in enumerate(heads):
        spot.head = number
    return Flow(begin, heads)


def laid_block(block, goal, found):
    """The first spot of a block that leads to the goal; its whiles are written down among those found."""
    spot = goal
    for deed in reversed(block):
        spot = laid_deed(deed, spot, found)
    return spot


def laid_deed(deed, goal, found):
    """The spot of a deed that leads to the goal."""
    spot = Spot(deed, goal)
    if deed[0] == "if":
        spot.no = laid_block(deed[3], goal, found)
        spot.yes = laid_block(deed[2], goal, found)
    elif deed[0] == "while":
        spot.yes = laid_block(deed[3], spot, found)
        found.append(spot)
    else:
        spot.yes = goal
    return spot
