"""Desks: stories that are told and taken back (points 22 to 25)."""

from leavetaking.common import frozen
from leavetaking.errors import Failed, NothingToUndo
from leavetaking.stories import Story


class Desk:
    """The one thing in the program that changes: it keeps a story, and the way back from each deed."""

    def __init__(self, story):
        # The story, and each deed that stands beside the story ahead of it: in one pair that never changes, so
        # that a block can keep it and put it back.
        self._now = (story, ())
        # How many of the deeds were done ahead of the present block.
        self._floor = 0

    @property
    def story(self):
        """The story as it is now."""
        return self._now[0]

    @property
    def deeds(self):
        """The deeds that stand, in order."""
        return tuple([deed for deed, _ in self._now[1]])

    def __len__(self):
        return len(self._now[1])

    def do(self, deed):
        """Carries out the deed."""
        deed = frozen(deed)
        word, told = deed
        story, trail = self._now
        changed = story.told(told) if word == "tell" else story.untold(told)
        self._now = (changed, trail + ((deed, story),))

    def undo(self):
        """Takes back the last deed that stands."""
        if len(self) <= self._floor:
            raise NothingToUndo()
        _, trail = self._now
        _, story = trail[-1]
        self._now = (story, trail[:-1])


class Trial:
    """A block after which the desk is as it was."""

    def __init__(self, desk):
        self._desk = desk

    def __enter__(self):
        self._before, self._floor = _begun(self._desk)
        return self._desk

    def __exit__(self, kind, value, trace):
        desk = self._desk
        desk._now = self._before
        desk._floor = self._floor


class Attempt:
    """A block after which the desk is as it was if the block ends with an error."""

    def __init__(self, desk):
        self._desk = desk

    def __enter__(self):
        self._before, self._floor = _begun(self._desk)
        return self._desk

    def __exit__(self, kind, value, trace):
        desk = self._desk
        desk._floor = self._floor
        if kind is not None:
            desk._now = self._before


class Supposing:
    """A block in which the story has these facts at its end, and after which the desk is as it was."""

    def __init__(self, desk, facts):
        self._desk = desk
        self._supposed = frozen(facts)

    def __enter__(self):
        desk = self._desk
        story, trail = desk._now
        # Made ahead of all changes, because it refuses what is no fact.
        supposed = story + Story(story.house, story.book, self._supposed)
        self._before, self._floor = _begun(desk)
        desk._now = (supposed, trail)
        return desk

    def __exit__(self, kind, value, trace):
        desk = self._desk
        desk._now = self._before
        desk._floor = self._floor


def _begun(desk):
    """Begins a block at the desk, and gives back what the block puts back at its end."""
    before = (desk._now, desk._floor)
    desk._floor = len(desk)
    return before


def perform(desk, actions):
    """Carries out the actions, and gives back what was seen."""
    seen = []
    _act_all(desk, frozen(actions), seen)
    return tuple(seen)


def _act_all(desk, actions, seen):
    """Carries out the actions and adds to what was seen."""
    for action in actions:
        if action[0] in ("trial", "attempt", "suppose"):
            _act_in_block(desk, action, seen)
        else:
            _act(desk, action, seen)


def _act(desk, action, seen):
    """Carries out an action without inner ones."""
    word = action[0]
    if word == "look":
        seen.append((len(desk), desk.story.facts))
    elif word == "undo":
        desk.undo()
    elif word == "fail":
        raise Failed()
    else:
        desk.do(action)


def _act_in_block(desk, action, seen):
    """Carries out the inner actions of the action, in its block."""
    if action[0] == "trial":
        with Trial(desk):
            _act_all(desk, action[1], seen)
    elif action[0] == "attempt":
        with Attempt(desk):
            _act_all(desk, action[1], seen)
    else:
        with Supposing(desk, action[1]):
            _act_all(desk, action[2], seen)
