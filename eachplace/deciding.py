"""Deciding: whether a saying holds in every standing."""

from eachplace.errors import TooWide
from eachplace.papers import paper_of
from eachplace.sayings import atoms_in, needed
from eachplace.searching import searched

MOST_PLACES = 6
MOST_ATOMS = 40


def decided(cast, saying):
    """("holds", paper), or ("broken", standing); TooWide where too many places or atoms are to be looked at."""
    if needed(cast, saying) > MOST_PLACES or atoms_in(saying) > MOST_ATOMS:
        raise TooWide("more than six places are needed, or more than forty atoms stand in the saying")
    word, told = searched(cast, saying, None, None)
    if word == "broken":
        return (word, told)
    return ("holds", paper_of(told))
