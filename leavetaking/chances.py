"""Chances of evenings, of stories and of claims (point 77)."""

from leavetaking.books import own_book
from leavetaking.claims import check_claim
from leavetaking.common import frozen
from leavetaking.flows import flow_of
from leavetaking.ratios import divided, ratio
from leavetaking.standings import START, moved, steps_at
from leavetaking.sums import chance_weight, kept_sum


def chance_of(house, book, evening):
    """The chance of the evening."""
    book = own_book(house, book)
    standing = START
    ways = 1
    for step in frozen(evening):
        ways = ways * len(steps_at(house, book, standing))
        standing = moved(house, standing, step)
    return ratio(1, ways)


def story_chance(story, claim=None):
    """The chance that an evening of the house and the book fits the story, and keeps the claim if one is given."""
    if claim is None:
        return flow_of(story).chance
    return kept_sum(story, claim, chance_weight)


def odds(story, claim):
    """The chance of the claim if the evening fits the story, or None if no evening fits."""
    check_claim(story.house, claim)
    chance = story_chance(story)
    if chance == (0, 1):
        return None
    return divided(story_chance(story, claim), chance)
