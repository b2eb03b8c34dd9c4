"""Forms: of sayings for each head the greatest choice that is kept."""

from eachplace.claims import claimed
from eachplace.deciding import decided
from eachplace.errors import TooWide
from eachplace.flows import flow_of
from eachplace.holding import holds
from eachplace.judging import is_too_wide, start_of
from eachplace.legs import along, deeds_along, legs_of


class Choosing:
    """Which sayings of each head are not yet left out, and how those fell that are."""

    def __init__(self, program, forms):
        self.program = program
        self.forms = forms
        self.flow = flow_of(program)
        self.chosen = [list(range(len(sayings))) for sayings in forms]
        self.falls = []

    def said_by(self, start):
        """What is said at the start of a leg by now."""
        if start is None:
            return self.program[1]
        return self.kept_at(start[0])

    def kept_at(self, head):
        """What the head keeps by now."""
        return ("and", tuple([self.forms[head][number] for number in self.chosen[head]]))

    def deeds_of(self, leg):
        """What is done and asked on the leg."""
        return deeds_along(self.flow, leg)

    def is_wide(self, leg):
        """Whether the leg has more places, or atoms, than are looked at."""
        return is_too_wide(self.program[0], self.said_by(leg[0]), self.deeds_of(leg), self.kept_at(leg[2]))

    def broken_at(self, leg, number):
        """A standing at the leg's start from which it comes to one where a saying of its goal fails, or None."""
        cast = self.program[0]
        due = self.forms[leg[2]][number]
        whole, saying = claimed(cast, self.said_by(leg[0]), self.deeds_of(leg), due)
        word, told = decided(whole, saying)
        return start_of(cast, whole, told) if word == "broken" else None

    def leave_out(self, leg, standing):
        """Leaves out all sayings that fail where the leg leads to from this standing."""
        head = leg[2]
        goal = along(self.program, leg, standing)
        for number in list(self.chosen[head]):
            if not holds(self.program[0], goal, self.forms[head][number]):
                self.chosen[head].remove(number)
                self.falls.append((head, number, leg, standing))

    def look_along(self, leg):
        """Leaves out what isn't kept along the leg; whether anything was left out."""
        many = len(self.falls)
        for number in list(self.chosen[leg[2]]):
            # What fell together with another one is looked at no more.
            if number in self.chosen[leg[2]]:
                standing = self.broken_at(leg, number)
                if standing is not None:
                    self.leave_out(leg, standing)
        return len(self.falls) > many


def kept_of(program, forms):
    """(choice, falls): the greatest choice that is kept, and how each other saying fell; TooWide where a leg is."""
    choosing = Choosing(program, forms)
    legs = [leg for leg in legs_of(program) if leg[2] is not None]
    for leg in legs:
        if choosing.is_wide(leg):
            raise TooWide("a leg to a head has more than six places, or more than forty atoms")
    left = list(legs)
    while len(left) > 0:
        leg = left.pop(0)
        if choosing.look_along(leg):
            # Less is said now at this head, so that legs from it are to be looked at anew.
            again = [other for other in legs if other[0] is not None and other[0][0] == leg[2] and other not in left]
            left.extend(again)
    return (tuple([tuple(numbers) for numbers in choosing.chosen]), tuple(choosing.falls))
