"""The steps that a story lets be made (point 74)."""

from leavetaking.common import frozen
from leavetaking.facts import event_about
from leavetaking.meanings import is_so
from leavetaking.standings import steps_at


def story_steps(story, standing):
    """All steps that are let at the standing and do not break a fact of the story, in order."""
    standing = frozen(standing)
    steps = steps_at(story.house, story.book, standing)
    return tuple([step for step in steps if not _is_breaking(story, standing, step)])


def _is_breaking(story, standing, step):
    """Whether the step, which is let at the standing, breaks a fact of the story."""
    for fact in story.facts:
        if event_about(fact) == step[:2] and not is_so(story.house, story.book, standing, step, fact):
            return True
    return False
