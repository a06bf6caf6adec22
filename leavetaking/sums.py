"""Sums over all evenings that fit a story and keep a claim, without going through the evenings (points 76 and 77)."""

from leavetaking.claims import check_claim
from leavetaking.ratios import added, multiplied, ratio
from leavetaking.rulings import Ruling
from leavetaking.standings import START, moved, steps_at
from leavetaking.storysteps import story_steps


def kept_sum(story, claim, weight_at):
    """The sum, over all evenings that fit and keep the claim, of the products of the weights of their steps.

    The weight of a step depends on the standing at which it is made alone; `weight_at` gives it as a fraction.
    """
    check_claim(story.house, claim)
    ruling = Ruling(story.house, story.book, claim)
    marks = ruling.unmarked()
    layer = {(START, ruling.rest(marks)): (marks, (1, 1))}
    for _ in range(2 * len(story.house)):
        layer = _next_layer(story, ruling, layer, weight_at)
    # In the end all facts are settled, and where the claim is broken, nothing was carried on.
    return total([weight for _, weight in layer.values()])


def even_weight(story, standing):
    """The weight with which evenings are counted."""
    return (1, 1)


def chance_weight(story, standing):
    """The chance of each step that is let at the standing by the house and the book."""
    return ratio(1, max(1, len(steps_at(story.house, story.book, standing))))


def total(fractions):
    """The sum of the fractions."""
    found = (0, 1)
    for fraction in fractions:
        found = added(found, fraction)
    return found


def _next_layer(story, ruling, layer, weight_at):
    """What is reached from this with one more step.

    A layer has for each standing and rest of the claim marks that leave this rest, and the sum of the products so far.
    """
    further = {}
    for (standing, _), (marks, weight) in layer.items():
        share = multiplied(weight, weight_at(story, standing))
        for step in story_steps(story, standing):
            after = ruling.marked(standing, marks, step)
            state = (moved(story.house, standing, step), ruling.rest(after))
            _, ahead = further.get(state, (after, (0, 1)))
            if ruling.rest(after) is not False:
                further[state] = (after, added(ahead, share))
    return further
