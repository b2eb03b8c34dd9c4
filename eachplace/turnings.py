"""Turnings: standings with rows changed, exchanged, turned about, moved, cut and joined."""

from eachplace.standings import length_of, number_at, place_of
from eachplace.sums import worth


def turned(cast, standing, turning):
    """The standing that comes of this one by a turning."""
    word = turning[0]
    if word == "changed":
        row, place, one = turning[1:]
        return with_number(cast, standing, row, place_of(cast, standing, place), worth(cast, standing, one))
    if word == "exchanged":
        return exchanged(cast, standing, turning[1], turning[2:])
    if word == "turned":
        return turned_about(standing)
    if word == "moved":
        return moved(standing, turning[1])
    at = place_of(cast, standing, turning[1])
    if word == "front":
        return front_of(standing, at)
    return back_of(standing, at)


def with_number(cast, standing, row, at, number):
    """The standing with this number in the row there; at the end nothing is changed."""
    if at == length_of(standing):
        return standing
    rows = list(standing[0])
    k = cast[0].index(row)
    rows[k] = rows[k][:at] + (number,) + rows[k][at + 1:]
    return (tuple(rows),) + standing[1:]


def exchanged(cast, standing, row, places):
    """The standing with the row's numbers at two places in one another's place."""
    one, other = [place_of(cast, standing, place) for place in places]
    if one == length_of(standing) or other == length_of(standing):
        return standing
    first = number_at(cast, standing, row, one)
    second = number_at(cast, standing, row, other)
    return with_number(cast, with_number(cast, standing, row, one, second), row, other, first)


def turned_about(standing):
    """The standing with all rows from their last place to the first, and the places with their numbers."""
    rows, places, numbers = standing
    length = length_of(standing)
    # The end stays where it is.
    gone = [place if place == length else length - 1 - place for place in places]
    return (tuple([row[::-1] for row in rows]), tuple(gone), numbers)


def moved(standing, more):
    """The standing with each number of the rows so much more."""
    rows, places, numbers = standing
    return (tuple([tuple([number + more for number in row]) for row in rows]), places, numbers)


def front_of(standing, at):
    """The standing with the rows up to a place, without it."""
    rows, places, numbers = standing
    return (tuple([row[:at] for row in rows]), tuple([min(place, at) for place in places]), numbers)


def back_of(standing, at):
    """The standing with the rows from a place on."""
    rows, places, numbers = standing
    return (tuple([row[at:] for row in rows]), tuple([max(place, at) - at for place in places]), numbers)


def joined(one, other):
    """The first standing with each row of the other one behind its own."""
    rows = tuple([first + second for first, second in zip(one[0], other[0])])
    return (rows,) + one[1:]
