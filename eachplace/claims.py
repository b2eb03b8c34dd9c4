"""Claims: what is said at a leg's start, done and asked on it and due at its goal, as one saying of the start."""

from eachplace.names import free_names
from eachplace.sayings import BETWEEN_PLACES, BETWEEN_SUMS, JOINING, parts_of


class Claim:
    """The names that stand for what the program's names have by now, and what is sure on the leg so far."""

    def __init__(self, cast, sayings):
        self.rows = {name: name for name in cast[0]}
        self.spots = {name: name for name in cast[1]}
        self.spots["end"] = "end"
        # Whatever is set is a sum of what was there before, so that numbers need no new names.
        self.sums = {name: (name, 0) for name in cast[2]}
        self.cast = cast
        self.taken = list(cast[0] + cast[1] + cast[2])
        for saying in sayings:
            self.taken.extend(told_names(saying))
        self.inner = self.new_name()
        self.new_rows = []
        self.new_spots = []
        self.first = None
        self.sure = []

    def new_name(self):
        """A name that stands nowhere yet."""
        name = free_names(self.taken, 1)[0]
        self.taken.append(name)
        return name

    def whole_cast(self):
        """The program's cast, and all new names."""
        rows, spots, numbers = self.cast
        return (tuple(sorted(rows + tuple(self.new_rows))), tuple(sorted(spots + tuple(self.new_spots))), numbers)

    def now(self, saying):
        """What the saying says by now, in the claim's names."""
        word = saying[0]
        if word in BETWEEN_SUMS:
            return (word, self.sum_now(saying[1]), self.sum_now(saying[2]))
        if word in BETWEEN_PLACES:
            return (word, self.spot_now(saying[1]), self.spot_now(saying[2]))
        if word == "nexts":
            return (word, self.rows[saying[1]], saying[2])
        if word in JOINING:
            return (word, tuple([self.now(part) for part in saying[1]]))
        if word == "if":
            return (word, self.now(saying[1]), self.now(saying[2]))
        return saying[:-1] + (self.now(saying[-1]),)

    def sum_now(self, one):
        """The sum of what its base has by now."""
        base, more = one
        if base is None:
            return one
        if isinstance(base, tuple):
            return ((self.rows[base[0]], self.spot_now(base[1])), more)
        ground, worth = self.sums[base]
        return (ground, worth + more)

    def spot_now(self, name):
        """Where a place stands by now; what an each or pairs tells is called as it is."""
        return self.spots.get(name, name)

    def ask(self, saying, truth):
        """It is sure what an asking told."""
        told = self.now(saying)
        self.sure.append(told if truth else ("not", told))

    def do_deed(self, deed):
        """It is sure what a deed does."""
        word = deed[0]
        if word == "put":
            self.put_now(deed[1], self.spots[deed[2]], self.sum_now(deed[3]))
        elif word == "swap":
            self.swap_now(deed[1], self.spots[deed[2]], self.spots[deed[3]])
        elif word == "set":
            self.sums[deed[1]] = self.sum_now(deed[2])
        elif word == "stand":
            self.spots[deed[1]] = self.spots[deed[2]]
        elif word == "begin":
            self.spots[deed[1]] = self.first_spot()
        else:
            self.spots[deed[1]] = self.spot_behind(self.spots[deed[1]])

    def new_row(self, row):
        """Two names: of the row so far, and of the row from now on."""
        old = self.rows[row]
        self.rows[row] = self.new_name()
        self.new_rows.append(self.rows[row])
        return old, self.rows[row]

    def new_spot(self):
        """The name of a new place."""
        name = self.new_name()
        self.new_spots.append(name)
        return name

    def put_now(self, row, at, one):
        """The row has the sum's worth there, and elsewhere what it had."""
        if at == "end":
            return
        old, new = self.new_row(row)
        self.sure.append(("each", self.inner, ("or", (("here", self.inner, at), same_at(new, old, self.inner)))))
        self.sure.append(("if", ("ahead", at, "end"), ("same", ((new, at), 0), one)))

    def swap_now(self, row, one, other):
        """The row's numbers are exchanged there, where neither is the end; elsewhere it has what it had."""
        if one == other or one == "end" or other == "end":
            return
        old, new = self.new_row(row)
        inside = (("ahead", one, "end"), ("ahead", other, "end"))
        hit = ("or", (("here", self.inner, one), ("here", self.inner, other)))
        stays = ("or", (same_at(new, old, self.inner), ("and", (hit,) + inside)))
        both = (("same", ((new, one), 0), ((old, other), 0)), ("same", ((new, other), 0), ((old, one), 0)))
        self.sure.append(("each", self.inner, stays))
        self.sure.append(("if", ("and", inside), ("and", both)))

    def first_spot(self):
        """The name of the first place; it is one for all that begin."""
        if self.first is None:
            self.first = self.new_spot()
            self.sure.append(("each", self.inner, ("not", ("ahead", self.inner, self.first))))
        return self.first

    def spot_behind(self, at):
        """The name of the place one beyond; at the end it stays."""
        if at == "end":
            return at
        new = self.new_spot()
        self.sure.append(("or", (("next", at, new), ("and", (("here", at, "end"), ("here", new, "end"))))))
        return new


def same_at(one, other, at):
    """That two rows have the same number at a place."""
    return ("same", ((one, at), 0), ((other, at), 0))


def told_names(saying):
    """The names that each and pairs within a saying tell."""
    names = list(saying[1:-1]) if saying[0] == "each" or saying[0] == "pairs" else []
    for part in parts_of(saying):
        names.extend(told_names(part))
    return names


def claimed(cast, said, deeds, due):
    """(cast, saying): that what is due comes of what is said, along deeds (deed, truth), a truth where one asks."""
    claim = Claim(cast, (said, due))
    claim.sure.append(said)
    for deed, truth in deeds:
        if truth is None:
            claim.do_deed(deed)
        else:
            claim.ask(deed[1], truth)
    told = ("if", ("and", tuple(claim.sure)), claim.now(due))
    return (claim.whole_cast(), told)
