"""Facts of which it would help to know whether they hold (point 49)."""

from leavetaking.claims import check_claim
from leavetaking.facts import contrary, own_facts
from leavetaking.verdicts import word_on


def settling(story, claim, facts):
    """For each of the facts the word on the claim if it is told, and the word if its contrary is."""
    told = own_facts(story.house, facts)
    check_claim(story.house, claim)
    return tuple([(word_on(story.told(fact), claim), word_on(story.told(contrary(fact)), claim)) for fact in told])


def deciders(story, claim, facts):
    """The indexes of all facts that settle the claim, whether they hold or not."""
    return tuple([index for index, words in enumerate(settling(story, claim, facts)) if "open" not in words])
