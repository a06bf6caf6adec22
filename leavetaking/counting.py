"""How many evenings fit a story, and the numbers of these evenings (point 76)."""

from leavetaking.common import frozen
from leavetaking.errors import BadNumber
from leavetaking.graphs import graph_of, is_over
from leavetaking.sums import even_weight, kept_sum


def evening_count(story, claim=None):
    """The number of evenings that fit the story, and keep the claim if one is given."""
    if claim is None:
        return graph_of(story).counts[0]
    many, _ = kept_sum(story, claim, even_weight)
    return many


def evening_number(story, evening):
    """The number of evenings that fit and come earlier in the order of evenings, or None if this one does not fit."""
    graph = graph_of(story)
    at = 0
    number = 0
    for step in frozen(evening):
        arrows = graph.arrows[at]
        steps = [other for other, _ in arrows]
        if step not in steps:
            return None
        place = steps.index(step)
        number += sum([graph.counts[index] for _, index in arrows[:place]])
        _, at = arrows[place]
    return number if is_over(story.house, graph.standings[at]) else None


def evening_by_number(story, number):
    """The evening that fits and has this number."""
    graph = graph_of(story)
    if not 0 <= number < graph.counts[0]:
        raise BadNumber(number)
    steps = []
    at = 0
    ahead = 0
    while not is_over(story.house, graph.standings[at]):
        step, at, ahead = _arrow_with(graph, at, ahead, number)
        steps.append(step)
    return tuple(steps)


def _arrow_with(graph, at, ahead, number):
    """The step from the standing on the way to the evening with this number, and the standing behind it.

    `ahead` is the number of the first evening that goes by the standing in this way, and then by the arrow.
    """
    for step, index in graph.arrows[at]:
        if number < ahead + graph.counts[index]:
            break
        ahead += graph.counts[index]
    return (step, index, ahead)
