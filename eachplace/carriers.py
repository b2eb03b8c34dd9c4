"""Carriers: what becomes of the sums, places and words of a saying over one turning each."""

# How a row's neighbours stand, looked at from the other side.
FROM_BEHIND = {"most": "least", "less": "more", "same": "same", "least": "most", "more": "less"}


class Carrier:
    """Over a turning that changes nothing; those below it tell anew what their turning changes."""

    def __init__(self, fresh):
        # Two names that the cast hasn't.
        self.fresh = fresh

    def sums_for(self, one, inner):
        """The cases (conditions, sum) of a sum: one is so always; where several are, all are worth the same."""
        base, more = one
        # Each row has 0 at the end, behind any turning.
        if isinstance(base, tuple) and base[1] != "end":
            return self.cases_at(base[0], base[1], more, inner)
        return [((), one)]

    def cases_at(self, row, place, more, inner):
        """The cases of a row's number at a place that isn't called end, and so much more."""
        return [((), ((row, place), more))]

    def ahead(self, one, other, inner):
        """That one place is ahead of the other."""
        return ("ahead", one, other)

    def here(self, one, other, inner):
        """That both places are one."""
        return ("here", one, other)

    def next_to(self, one, other):
        """That the other place is one beyond the one; no each or pairs stands around it."""
        return ("next", one, other)

    def over_all(self, names, told):
        """That what is told, carried already, is so in each place of the name, or each two of the names."""
        return over(names, told)

    def in_order(self, row, word):
        """What becomes of a nexts; None where it is to be carried as a pairs."""
        return ("nexts", row, word)


class Changed(Carrier):
    """Over a row that is changed at a place, to what a sum is worth."""

    def __init__(self, fresh, row, at, one):
        Carrier.__init__(self, fresh)
        self.row = row
        self.at = at
        self.one = one

    def cases_at(self, row, place, more, inner):
        """The sum, where this is the place; else what was there."""
        plain = ((row, place), more)
        if row != self.row:
            return [((), plain)]
        base, worth = self.one
        hit = both_inside(place, self.at, inner)
        return [(hit, (base, worth + more)), ((none_of(hit),), plain)]

    def in_order(self, row, word):
        """The changed row's nexts is carried as a pairs."""
        return None if row == self.row else ("nexts", row, word)


class Exchanged(Carrier):
    """Over a row whose numbers at two places are exchanged."""

    def __init__(self, fresh, row, at, to):
        Carrier.__init__(self, fresh)
        self.row = row
        self.at = at
        self.to = to

    def cases_at(self, row, place, more, inner):
        """The other place's number, where this is one of the two; else what was there."""
        plain = ((row, place), more)
        if row != self.row:
            return [((), plain)]
        cases = []
        for one, other in ((self.at, self.to), (self.to, self.at)):
            hit = both_inside(place, one, inner) + (("ahead", other, "end"),)
            # Where it is called as one of the two the other case tells nothing more.
            if place != other:
                cases.append((hit, ((row, other), more)))
        stays = tuple([none_of(hit) for hit, one in cases])
        return cases + [(stays, plain)]

    def in_order(self, row, word):
        """The nexts of the row is carried as a pairs."""
        return None if row == self.row else ("nexts", row, word)


class Moved(Carrier):
    """Over rows each of whose numbers is so much more."""

    def __init__(self, fresh, worth):
        Carrier.__init__(self, fresh)
        self.worth = worth

    def cases_at(self, row, place, more, inner):
        """So much more, but at the end."""
        gone = ((row, place), more + self.worth)
        if place in inner:
            return [((), gone)]
        return [((("ahead", place, "end"),), gone), ((("here", place, "end"),), ((row, place), more))]


class Turned(Carrier):
    """Over rows that are turned about. Places but the end go with their numbers."""

    def ahead(self, one, other, inner):
        """The other is ahead, or is the end; one isn't the end."""
        inside = ("ahead", one, "end")
        if other == "end":
            return inside
        behind = ("ahead", other, one)
        if other not in inner:
            behind = ("or", (behind, ("here", other, "end")))
        return behind if one in inner else ("and", (inside, behind))

    def next_to(self, one, other):
        """One is next to the other; or the other is the end and one the first place, now the last."""
        first = self.fresh[0]
        inside = ("ahead", one, "end")
        is_first = ("and", (inside, ("each", first, ("not", ("ahead", first, one)))))
        if other == "end":
            return is_first
        return ("or", (("and", (inside, ("next", other, one))), ("and", (("here", other, "end"), is_first))))

    def over_all(self, names, told):
        """Of two places the second stands ahead of the first."""
        return over(names[::-1], told)

    def in_order(self, row, word):
        """The neighbours stand the other way about."""
        return ("nexts", row, FROM_BEHIND[word])


class Front(Carrier):
    """Over rows to a place alone: places beyond are at it, and it is the end."""

    def __init__(self, fresh, at):
        Carrier.__init__(self, fresh)
        self.at = at

    def cases_at(self, row, place, more, inner):
        """What was there, where the place is ahead of the cut; else nothing."""
        plain = ((row, place), more)
        if place in inner:
            return [((), plain)]
        inside = ("ahead", place, self.at)
        return [((inside,), plain), ((("not", inside),), (None, more))]

    def ahead(self, one, other, inner):
        """One is ahead of the other, and of the cut."""
        if one in inner or other in inner:
            return ("ahead", one, other)
        return ("and", (("ahead", one, self.at), ("ahead", one, other)))

    def here(self, one, other, inner):
        """Both are one, or neither is ahead of the cut."""
        if one in inner or other in inner:
            return ("here", one, other)
        beyond = [("not", ("ahead", place, self.at)) for place in (one, other)]
        return ("or", (("here", one, other), ("and", tuple(beyond))))

    def next_to(self, one, other):
        """The other is next to one, which is ahead of the cut; or the cut is, and the other isn't ahead of it."""
        inside = ("and", (("ahead", one, self.at), ("next", one, other)))
        cut = ("and", (("next", one, self.at), ("not", ("ahead", other, self.at))))
        return ("or", (inside, cut))

    def over_all(self, names, told):
        """In places ahead of the cut."""
        return over(names, ("if", ("ahead", names[-1], self.at), told))

    def in_order(self, row, word):
        """A nexts is carried as a pairs."""
        return None


class Back(Carrier):
    """Over rows from a place on: places ahead of it are at it, and it is the first."""

    def __init__(self, fresh, at):
        Carrier.__init__(self, fresh)
        self.at = at

    def cases_at(self, row, place, more, inner):
        """What is there, where the place isn't ahead of the cut; else what is at the cut."""
        plain = ((row, place), more)
        if place in inner:
            return [((), plain)]
        cut = ("ahead", place, self.at)
        return [((("not", cut),), plain), ((cut,), ((row, self.at), more))]

    def ahead(self, one, other, inner):
        """One is ahead of the other, and so is the cut."""
        if one in inner:
            return ("ahead", one, other)
        return ("and", (("ahead", self.at, other), ("ahead", one, other)))

    def here(self, one, other, inner):
        """Both are one, or neither is beyond the cut."""
        if one in inner and other in inner:
            return ("here", one, other)
        at_cut = [("not", ("ahead", self.at, place)) for place in (one, other)]
        return ("or", (("here", one, other), ("and", tuple(at_cut))))

    def next_to(self, one, other):
        """The other is next to one; or to the cut, where one is ahead of it."""
        inside = ("and", (("not", ("ahead", one, self.at)), ("next", one, other)))
        cut = ("and", (("ahead", one, self.at), ("next", self.at, other)))
        return ("or", (inside, cut))

    def over_all(self, names, told):
        """In places that aren't ahead of the cut."""
        return over(names, ("if", ("not", ("ahead", names[0], self.at)), told))

    def in_order(self, row, word):
        """A nexts is carried as a pairs."""
        return None


def over(names, told):
    """That something is so in each place of a name, or each two of two names."""
    return ("each" if len(names) == 1 else "pairs",) + tuple(names) + (told,)


def both_inside(place, at, inner):
    """Conditions by which the place is the one that is called at, and not the end."""
    if place in inner:
        return (("here", place, at),)
    inside = ("ahead", place, "end")
    return (inside,) if place == at else (("here", place, at), inside)


def none_of(conditions):
    """That not all of the conditions are so."""
    if len(conditions) == 1:
        return ("not", conditions[0])
    return ("not", ("and", conditions))
