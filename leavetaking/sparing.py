"""Facts that say nothing that the other facts of a story do not say (point 46)."""

from leavetaking.casework import first_evening
from leavetaking.claims import Claim
from leavetaking.facts import contrary


def spare_facts(story):
    """The indexes of all spare facts, ascending."""
    return tuple([index for index in range(len(story)) if _is_spare(story, index)])


def lean(story):
    """The story without facts that are spare, where later facts are taken out first."""
    leaner = story
    for index in range(len(story) - 1, -1, -1):
        if _is_spare(leaner, index):
            leaner = leaner.untold(index)
    return leaner


def _is_spare(story, index):
    """Whether every evening that fits the story without the fact at the index fits it with the fact."""
    return first_evening(story.untold(index), Claim.of(contrary(story.facts[index]))) is None
