"""Runs of programs, step by step."""

from eachplace.flows import flow_of
from eachplace.states import State


def run(program, standing, most):
    """("ended", steps, standing), or ("on", steps, standing) behind so many steps, where more would come."""
    state = State(program[0], standing)
    spot = flow_of(program).begin
    steps = 0
    while spot is not None and steps < most:
        spot = behind_step(state, spot)
        steps += 1
    return ("ended" if spot is None else "on", steps, state.as_standing())


def askings(program, standing, most):
    """A tuple of (head, standing): each asking of a while that is one of so many steps at most."""
    state = State(program[0], standing)
    spot = flow_of(program).begin
    steps = 0
    told = []
    while spot is not None and steps < most:
        if spot.head is not None:
            told.append((spot.head, state.as_standing()))
        spot = behind_step(state, spot)
        steps += 1
    return tuple(told)


def behind_step(state, spot):
    """The spot behind this one, once its step is done."""
    if spot.asks():
        return spot.behind_asking(state.is_so(spot.deed[1]))
    state.do(spot.deed)
    return spot.yes
