"""Odds and means over all evenings that fit a story, weighted by chance (points 78 and 79)."""

from leavetaking.casework import told_wearings
from leavetaking.flows import arrow_chances, flow_of
from leavetaking.graphs import graph_of, is_over
from leavetaking.houses import check_guests
from leavetaking.ratios import divided, is_greater, multiplied
from leavetaking.standings import hung_at
from leavetaking.sums import chance_weight, total


def wearing_odds(story):
    """All possible wearings, ascending, each with its odds."""
    flow = flow_of(story)
    chances = {}
    for at, (_, gone) in enumerate(flow.graph.standings):
        # Who left in which cloak is all that tells apart the standings in which all guests have left.
        if len(gone) == len(story.house):
            chances[tuple([cloak for _, cloak in gone])] = flow.into[at]
    return tuple([(wearing, divided(chances[wearing], flow.chance))
                  for wearing in told_wearings(story) if wearing in chances])


def mean_come(story, guest):
    """The mean of the number of guests that have come when the guest leaves, or None if no evening fits."""
    check_guests(story.house, [guest])
    flow = flow_of(story)
    if flow.chance == (0, 1):
        return None
    shares = [multiplied((come, 1), chance) for (come, _), step, chance in arrow_chances(flow)
              if step[:2] == ("out", guest)]
    return divided(total(shares), flow.chance)


def likeliest(story):
    """The evening that fits with the greatest chance, with this chance, or None if no evening fits."""
    graph = graph_of(story)
    if not graph.counts[0]:
        return None
    best = _best_chances(story, graph)
    steps = []
    at = 0
    while not is_over(story.house, graph.standings[at]):
        step, at = _best_arrow(graph, best, at)
        steps.append(step)
    return (tuple(steps), best[0])


def moment_odds(story, cloak):
    """For the coming of each guest of the book the odds that the cloak hung then, or None if no evening fits."""
    check_guests(story.house, [cloak])
    flow = flow_of(story)
    if flow.chance == (0, 1):
        return None
    chances = [[] for _ in story.book]
    for standing, step, chance in arrow_chances(flow):
        if step[0] == "in" and cloak in hung_at(story.house, story.book, standing):
            chances[standing[0]].append(chance)
    return tuple([divided(total(row), flow.chance) for row in chances])


def _best_chances(story, graph):
    """For each standing the greatest chance of a way from it to the end, 0 without such a way."""
    best = [(0, 1)] * len(graph.standings)
    for at in reversed(range(len(graph.standings))):
        if is_over(story.house, graph.standings[at]):
            best[at] = (1, 1)
        elif graph.counts[at]:
            _, index = _best_arrow(graph, best, at)
            best[at] = multiplied(chance_weight(story, graph.standings[at]), best[index])
    return best


def _best_arrow(graph, best, at):
    """The first one of the steps from the standing behind which the greatest chance stands, and where it leads."""
    found = graph.arrows[at][0]
    for arrow in graph.arrows[at][1:]:
        if is_greater(best[arrow[1]], best[found[1]]):
            found = arrow
    return found
