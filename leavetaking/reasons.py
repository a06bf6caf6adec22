"""Facts that are enough for a claim, and facts without which it is open (points 48 and 50)."""

from leavetaking.casework import first_evening
from leavetaking.claims import check_claim
from leavetaking.common import least_lots
from leavetaking.quarrels import story_of, story_without
from leavetaking.verdicts import word_on


def least_reasons(story, claim):
    """All reasons for the claim that have no smaller reason in them, in order."""
    check_claim(story.house, claim)
    denial = ~claim
    return least_lots(len(story), lambda lot: first_evening(story_of(story, lot), denial) is None)


def freed_by(story, claim):
    """All lots of facts without which the claim is open, and that have no smaller such lot in them, in order."""
    check_claim(story.house, claim)
    return least_lots(len(story), lambda lot: word_on(story_without(story, lot), claim) == "open")
