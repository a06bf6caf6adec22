"""Possible wearings and their evenings (point 40)."""

from leavetaking.casework import claimed_lots, evening_worn, told_wearings
from leavetaking.worncases import own_wearing


def possible_wearings(story, claim=None):
    """All wearings of evenings that fit the story, and keep the claim if one is given, ascending."""
    lots = claimed_lots(story, claim)
    for wearing in told_wearings(story):
        if evening_worn(story, lots, wearing) is not None:
            yield wearing


def evening_of_wearing(story, wearing, claim=None):
    """The hurried evening of the first case with this wearing in which it is whole, or None."""
    worn = own_wearing(story.house, wearing)
    lots = claimed_lots(story, claim)
    return evening_worn(story, lots, worn)
