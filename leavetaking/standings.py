"""Standings of an evening and the steps that are let at them (points 10 and 11)."""

from leavetaking.books import own_book
from leavetaking.common import frozen
from leavetaking.errors import NotLet

START = (0, ())


def hanging(house, book, standing):
    """The cloaks that hang at the standing, in house order."""
    return hung_at(house, own_book(house, book), frozen(standing))


def present(house, book, standing):
    """The guests in the room at the standing, in house order."""
    return room_at(house, own_book(house, book), frozen(standing))


def next_steps(house, book, standing):
    """All steps that are let at the standing, in order."""
    return steps_at(house, own_book(house, book), frozen(standing))


def after_step(house, book, standing, step):
    """The standing after the step."""
    book = own_book(house, book)
    standing = frozen(standing)
    step = frozen(step)
    if step not in steps_at(house, book, standing):
        raise NotLet(step)
    return moved(house, standing, step)


# The following four are for books that are known to be books of the house, and for tuples.


def hung_at(house, book, standing):
    """What `hanging` tells."""
    come, gone = standing
    brought = [house.brought(guest) for guest in book[:come]]
    taken = [cloak for _, cloak in gone]
    return tuple([cloak for cloak in house.guests if cloak in brought and cloak not in taken])


def room_at(house, book, standing):
    """What `present` tells."""
    come, gone = standing
    left = [guest for guest, _ in gone]
    return tuple([guest for guest in house.guests if guest in book[:come] and guest not in left])


def steps_at(house, book, standing):
    """What `next_steps` tells."""
    come, _ = standing
    hung = hung_at(house, book, standing)
    steps = []
    if house.pegs is None or len(hung) < house.pegs:
        # A slice, because behind the last guest of the book there is none to come.
        steps.extend([("in", guest) for guest in book[come:come + 1]])
    for guest in room_at(house, book, standing):
        depth = house.depth(guest)
        steps.extend([("out", guest, cloak) for cloak in hung if len(house.better_among(guest, cloak, hung)) < depth])
    return tuple(steps)


def moved(house, standing, step):
    """The standing after a step that is let."""
    come, gone = standing
    if step[0] == "in":
        return (come + 1, gone)
    cloaks = {guest: cloak for guest, cloak in gone + (step[1:],)}
    return (come, tuple([(guest, cloaks[guest]) for guest in house.guests if guest in cloaks]))
