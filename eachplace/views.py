"""Views of standings: what each row and number has, at hand by its name."""

from eachplace.standings import length_of


class View:
    """The rows and numbers of a standing, and how many places it has; where its places stand isn't in it."""

    def __init__(self, cast, standing):
        self.length = length_of(standing)
        # At the end, behind its last place, each row has 0.
        self.rows = {name: row + (0,) for name, row in zip(cast[0], standing[0])}
        self.numbers = {name: number for name, number in zip(cast[2], standing[2])}
