"""Spans: how much each of some things may be more than each other one, as edges come one by one."""


class Spans:
    """Things are numbers from 0. The edges that have come are met by some numbers, always."""

    def __init__(self, many, far, reach, edges):
        # Things that no edges bind stand far apart: that is more than twice what any way along edges comes to.
        self.many = many
        self.far = far
        # For one and other at one * many + other: one is at most other and so much.
        self.reach = reach
        self.edges = edges

    def twin(self):
        """Spans that are like these and go their own way."""
        return Spans(self.many, self.far, list(self.reach), list(self.edges))

    def is_sure(self, one, other, more):
        """Whether the edge is met wherever all that have come are."""
        return self.reach[one * self.many + other] <= more

    def is_refuted(self, one, other, more):
        """Whether the edge is met nowhere where all that have come are."""
        return self.reach[other * self.many + one] + more < 0

    def tie(self, one, other, more, label):
        """Takes in an edge that isn't refuted; an edge that is sure adds nothing."""
        many = self.many
        reach = self.reach
        if reach[one * many + other] <= more:
            return
        self.edges.append((one, other, more, label))
        half = self.far // 2
        behind = [(thing, reach[other * many + thing]) for thing in range(many)]
        behind = [(thing, way) for thing, way in behind if way < half]
        for thing in range(many):
            start = thing * many
            ahead = reach[start + one]
            if ahead < half:
                ahead += more
                for goal, way in behind:
                    if ahead + way < reach[start + goal]:
                        reach[start + goal] = ahead + way

    def labels_along(self, start, goal):
        """The labels of edges that lead from start to goal on a nearest way, as few as can be."""
        came = {start: None}
        front = [start]
        while goal not in came:
            farther = []
            for edge in self.edges:
                if edge[0] in front and edge[1] not in came and self.is_on_nearest(edge, goal):
                    came[edge[1]] = edge
                    farther.append(edge[1])
            front = farther
        labels = []
        thing = goal
        while came[thing] is not None:
            labels.append(came[thing][3])
            thing = came[thing][0]
        return labels[::-1]

    def is_on_nearest(self, edge, goal):
        """Whether a nearest way to the goal begins with the edge."""
        one, other, more, label = edge
        return more + self.reach[other * self.many + goal] == self.reach[one * self.many + goal]


def loose_spans(many, greatest):
    """Spans without an edge; no edge that comes will have a more beyond the greatest, without its sign."""
    far = 4 * (many + 1) * (greatest + 1)
    reach = [far] * (many * many)
    for thing in range(many):
        reach[thing * many + thing] = 0
    return Spans(many, far, reach, [])
