"""Legs: the ways of a program from its begin or a head to the head that is come to next, or to the end."""

from eachplace.flows import flow_of
from eachplace.states import State


def legs_of(program):
    """A tuple of all legs (start, choices, goal) of the program, sorted."""
    flow = flow_of(program)
    legs = legs_from(None, flow.begin)
    for spot in flow.heads:
        for truth in (False, True):
            legs.extend(legs_from((spot.head, truth), spot.behind_asking(truth)))
    return tuple(legs)


def legs_from(start, spot):
    """A list of the legs of this start, which go on from a spot."""
    return [(start, choices, goal) for choices, goal in ways_from(spot)]


def ways_from(spot):
    """A list of (choices, goal) from a spot on, sorted by choices."""
    while spot is not None and spot.head is None:
        if spot.asks():
            return ways_behind(spot, False) + ways_behind(spot, True)
        spot = spot.yes
    return [((), None if spot is None else spot.head)]


def ways_behind(spot, truth):
    """A list of (choices, goal) from an if on that has told this."""
    return [((truth,) + choices, goal) for choices, goal in ways_from(spot.behind_asking(truth))]


def deeds_along(flow, leg):
    """A list of (deed, truth) in order: what is done on the leg (None) and what is asked, with what that told."""
    start, choices, goal = leg
    deeds = []
    spot = flow.begin
    if start is not None:
        head, truth = start
        deeds.append((flow.heads[head].deed, truth))
        spot = flow.heads[head].behind_asking(truth)
    left = list(choices)
    while spot is not None and spot.head is None:
        truth = left.pop(0) if spot.asks() else None
        deeds.append((spot.deed, truth))
        spot = spot.yes if truth is None else spot.behind_asking(truth)
    return deeds


def along(program, leg, standing):
    """The standing at the goal of the leg, or None where an asking on it is otherwise."""
    state = State(program[0], standing)
    for deed, truth in deeds_along(flow_of(program), leg):
        if truth is None:
            state.do(deed)
        elif state.is_so(deed[1]) != truth:
            return None
    return state.as_standing()
