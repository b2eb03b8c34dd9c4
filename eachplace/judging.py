"""Judging: whether all legs of a program are right."""

from eachplace.claims import claimed
from eachplace.deciding import MOST_ATOMS, MOST_PLACES, decided
from eachplace.errors import TooWide
from eachplace.flows import flow_of
from eachplace.legs import deeds_along, legs_of
from eachplace.sayings import atoms_in, brought

# How many atoms, and places beside the cast's, a deed brings to a leg.
DEED_ATOMS = {"put": 4, "swap": 9, "set": 1, "go": 3, "begin": 1}
DEED_PLACES = {"go": 1, "begin": 1}


def claim_of(program, leg):
    """(cast, saying): the saying holds just where the leg is right; what breaks it goes wrong on the leg."""
    flow = flow_of(program)
    return claimed(program[0], said_at(program, flow, leg[0]), deeds_along(flow, leg), due_at(program, flow, leg[2]))


def said_at(program, flow, start):
    """What is said at the start of a leg."""
    if start is None:
        return program[1]
    return flow.heads[start[0]].deed[2]


def due_at(program, flow, goal):
    """What is due at the goal of a leg."""
    if goal is None:
        return program[3]
    return flow.heads[goal].deed[2]


def is_too_wide(cast, said, deeds, due):
    """Whether a leg has more places, or atoms, than are looked at."""
    places = len(cast[1]) + brought(said, True) + brought(due, False)
    atoms = atoms_in(said) + atoms_in(due)
    for deed, truth in deeds:
        if truth is None:
            places += DEED_PLACES.get(deed[0], 0)
            atoms += DEED_ATOMS.get(deed[0], 0)
        else:
            atoms += atoms_in(deed[1])
    return places > MOST_PLACES or atoms > MOST_ATOMS


def judged(program):
    """("let by", papers), a paper for each leg's claim, or ("fails", leg, standing); TooWide where a leg is."""
    flow = flow_of(program)
    legs = legs_of(program)
    for leg in legs:
        said, due = said_at(program, flow, leg[0]), due_at(program, flow, leg[2])
        if is_too_wide(program[0], said, deeds_along(flow, leg), due):
            raise TooWide("a leg has more than six places, or more than forty atoms")
    papers = []
    for leg in legs:
        cast, saying = claim_of(program, leg)
        word, told = decided(cast, saying)
        if word == "broken":
            return ("fails", leg, start_of(program[0], cast, told))
        papers.append(told)
    return ("let by", tuple(papers))


def start_of(cast, whole, standing):
    """What the names of the program's cast have in a standing of a claim's whole cast."""
    parts = []
    for names, all_names, part in zip(cast, whole, standing):
        parts.append(tuple([part[all_names.index(name)] for name in names]))
    return tuple(parts)
