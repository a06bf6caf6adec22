"""Facts that cannot all hold, and those that must be doubted then (point 47)."""

from leavetaking.casework import first_evening
from leavetaking.common import least_lots
from leavetaking.stories import Story


def least_quarrels(story):
    """All lots of facts that quarrel and have no smaller lot in them that does, in order."""
    return least_lots(len(story), lambda lot: first_evening(story_of(story, lot)) is None)


def least_doubts(story):
    """All doubts that have no smaller doubt in them, in order."""
    return least_lots(len(story), lambda lot: first_evening(story_without(story, lot)) is not None)


def fewest_doubted(story):
    """The first of the least doubts."""
    return least_doubts(story)[0]


def story_of(story, lot):
    """The story with the facts of the lot alone."""
    return Story(story.house, story.book, [story.facts[index] for index in lot])


def story_without(story, lot):
    """The story without the facts of the lot."""
    return story_of(story, [index for index in range(len(story)) if index not in lot])
