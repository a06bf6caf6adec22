"""Evenings: walking them, finding them, and what can be read off them (points 12 to 14)."""

from leavetaking.books import own_book
from leavetaking.common import frozen
from leavetaking.errors import BadStep
from leavetaking.standings import START, moved, steps_at


def walk(house, book, steps):
    """All standings to which the steps lead, from the first one on."""
    book = own_book(house, book)
    steps = frozen(steps)
    standings = _standings(house, book, steps)
    if len(standings) <= len(steps):
        raise BadStep(len(standings) - 1)
    return tuple(standings)


def is_evening(house, book, steps):
    """Whether the steps are an evening of the house and the book."""
    book = own_book(house, book)
    steps = frozen(steps)
    standings = _standings(house, book, steps)
    _, gone = standings[-1]
    return len(standings) == len(steps) + 1 and len(gone) == len(house)


def _standings(house, book, steps):
    """The first standing and the one after each of the steps, as far as these are let."""
    standings = [START]
    for step in steps:
        standing = standings[-1]
        if step not in steps_at(house, book, standing):
            break
        standings.append(moved(house, standing, step))
    return standings


def evenings(house, book):
    """All evenings of the house and the book, each once, in the order of evenings."""
    book = own_book(house, book)
    yield from _goings_on(house, book, START, ())


def _goings_on(house, book, standing, steps):
    """All evenings that begin with these steps, which lead to this standing."""
    # Whoever has come can still leave, so steps that cannot be gone on with are an evening.
    further = steps_at(house, book, standing)
    if not further:
        yield steps
    for step in further:
        after = moved(house, standing, step)
        longer = steps + (step,)
        yield from _goings_on(house, book, after, longer)


def book_of(evening):
    """The order of the comings in the evening."""
    return tuple([step[1] for step in frozen(evening) if step[0] == "in"])


def place_of(evening, event):
    """The index of the step of the event."""
    return [step[:2] for step in frozen(evening)].index(frozen(event))


def row_of(evening):
    """The guest and the cloak of each leaving, in the order of the evening."""
    return tuple([step[1:] for step in frozen(evening) if step[0] == "out"])


def wearing_of(house, evening):
    """The cloak in which each guest left, in house order."""
    cloaks = {guest: cloak for guest, cloak in row_of(evening)}
    return tuple([cloaks[guest] for guest in house.guests])
