"""The least break of a saying: of the fewest places, and of these of the least size."""

from eachplace.errors import TooWide
from eachplace.papers import paper_of
from eachplace.sayings import atoms_in, needed
from eachplace.searching import searched
from eachplace.standings import size_of

MOST_PLACES = 4
MOST_ATOMS = 16


def least_break(cast, saying):
    """None where the saying holds, else (standing, paper): a least break, and why no shorter one breaks it."""
    if needed(cast, saying) > MOST_PLACES or atoms_in(saying) > MOST_ATOMS:
        raise TooWide("more than four places are needed, or more than sixteen atoms stand in the saying")
    if searched(cast, saying, None, None)[0] == "closed":
        return None
    paper = None
    length = 0
    word, told = searched(cast, saying, length, None)
    while word == "closed":
        paper = paper_of(told)
        length += 1
        word, told = searched(cast, saying, length, None)
    return (of_least_size(cast, saying, length, told), paper)


def of_least_size(cast, saying, length, standing):
    """A break of this length, or less, of the least size; the standing is one of any size."""
    # Below low there is none. The bound just below what was found often shows at once that it is the least;
    # the one halfway down keeps great sizes from being gone through one by one.
    low = 0
    near = True
    while low < size_of(standing):
        high = size_of(standing)
        bound = high - 1 if near else (low + high - 1) // 2
        near = not near
        word, told = searched(cast, saying, length, bound)
        if word == "broken":
            standing = told
        else:
            low = bound + 1
    return standing
