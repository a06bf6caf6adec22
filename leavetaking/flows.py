"""The chances with which evenings go by the standings of a story: for odds and means (points 77 to 79)."""

from leavetaking.graphs import graph_of, is_over
from leavetaking.ratios import added, multiplied
from leavetaking.sums import chance_weight, total


class Flow:
    """The graph of a story, and three fractions for each of its standings.

    `shares` has the chance of each step that is made from there; `into` the chance that the steps of an evening lead
    there and fit the story so far; `behind` the chance that they go on from there to an evening that fits.
    """

    def __init__(self, graph, shares, into, behind):
        self.graph = graph
        self.shares = shares
        self.into = into
        self.behind = behind

    @property
    def chance(self):
        """The chance that an evening fits the story."""
        return self.behind[0]


def flow_of(story):
    """The flow of the story."""
    graph = graph_of(story)
    shares = [chance_weight(story, standing) for standing in graph.standings]
    return Flow(graph, shares, _into(graph, shares), _behind(story.house, graph, shares))


def arrow_chances(flow):
    """For each step from each standing the tuple of both and the chance that an evening makes it and fits the story."""
    found = []
    for at, arrows in enumerate(flow.graph.arrows):
        ahead = multiplied(flow.into[at], flow.shares[at])
        found.extend([(flow.graph.standings[at], step, multiplied(ahead, flow.behind[index]))
                      for step, index in arrows])
    return found


def _into(graph, shares):
    found = [(0, 1)] * len(shares)
    found[0] = (1, 1)
    for at, arrows in enumerate(graph.arrows):
        share = multiplied(found[at], shares[at])
        for _, index in arrows:
            found[index] = added(found[index], share)
    return found


def _behind(house, graph, shares):
    found = [(0, 1)] * len(shares)
    for at in reversed(range(len(shares))):
        if is_over(house, graph.standings[at]):
            found[at] = (1, 1)
        else:
            further = total([found[index] for _, index in graph.arrows[at]])
            found[at] = multiplied(shares[at], further)
    return found
