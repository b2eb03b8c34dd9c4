"""States: what rows, places and numbers have while a program runs."""

from eachplace.holding import holds_at
from eachplace.standings import named_places
from eachplace.sums import worth_at
from eachplace.views import View


class State:
    """A standing that deeds change."""

    def __init__(self, cast, standing):
        self.cast = cast
        self.view = View(cast, standing)
        self.spots = named_places(cast, standing)
        # The rows as a standing has them: those that no deed has changed are told again as they are.
        self.plain = {name: row for name, row in zip(cast[0], standing[0])}

    def as_standing(self):
        """The standing, as it is now."""
        rows, places, numbers = self.cast
        return (
            tuple([self.plain[name] for name in rows]),
            tuple([self.spots[name] for name in places]),
            tuple([self.view.numbers[name] for name in numbers]),
        )

    def is_so(self, saying):
        """Whether the saying holds now."""
        return holds_at(self.view, self.spots, saying)

    def worth_now(self, one):
        """What the sum is worth now."""
        return worth_at(self.view, self.spots, one)

    def do(self, deed):
        """Does a deed that is no if and no while."""
        word = deed[0]
        if word == "put":
            self.put_at(deed[1], self.spots[deed[2]], self.worth_now(deed[3]))
        elif word == "swap":
            self.exchange(deed[1], self.spots[deed[2]], self.spots[deed[3]])
        elif word == "set":
            self.view.numbers[deed[1]] = self.worth_now(deed[2])
        elif word == "stand":
            self.spots[deed[1]] = self.spots[deed[2]]
        elif word == "begin":
            self.spots[deed[1]] = 0
        else:
            self.spots[deed[1]] = min(self.spots[deed[1]] + 1, self.view.length)

    def put_at(self, row, at, number):
        """The row has the number there; at the end nothing is changed."""
        if at < self.view.length:
            plain = self.plain[row]
            self.plain[row] = plain[:at] + (number,) + plain[at + 1:]
            self.view.rows[row] = self.plain[row] + (0,)

    def exchange(self, row, one, other):
        """The row's numbers there stand in one another's place; where one is the end nothing is changed."""
        if one < self.view.length and other < self.view.length:
            plain = self.plain[row]
            self.put_at(row, one, plain[other])
            self.put_at(row, other, plain[one])
