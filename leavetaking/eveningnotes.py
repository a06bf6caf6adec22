"""Notes of evenings (point 105)."""

from leavetaking.common import frozen
from leavetaking.errors import BadNotation
from leavetaking.graphs import is_over
from leavetaking.notelines import line_of, lines_of, note_of, words_at
from leavetaking.standings import START, moved, steps_at


def format_evening(steps):
    """The note of the evening."""
    return note_of([line_of(step) for step in frozen(steps)])


def parse_evening(house, text):
    """The evening of the house, with whatever book, of which the text is the note."""
    lines = lines_of(text)
    steps = []
    came = ()
    standing = START
    for index in range(len(lines)):
        step = words_at(lines, index)
        if not _is_let(house, came, standing, step):
            raise BadNotation(index)
        if step[0] == "in":
            came = came + step[1:]
        standing = moved(house, standing, step)
        steps.append(step)
    if not is_over(house, standing):
        raise BadNotation(len(lines))
    return tuple(steps)


def _is_let(house, came, standing, step):
    """Whether the words are a step that is let if just these guests have come, in this order."""
    if step[:1] != ("in",):
        return step in steps_at(house, came, standing)
    free = [guest for guest in house.guests if guest not in came]
    # Whoever has not come can be the next one of the book.
    return any([step == ("in", guest) for guest in free]) and step in steps_at(house, came + step[1:], standing)
