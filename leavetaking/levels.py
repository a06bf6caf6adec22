"""Levels of guests, and what the hurried evening tells by them (points 30 and 31)."""

from leavetaking.bars import bars, first_come, may_happen
from leavetaking.books import events_of
from leavetaking.common import frozen
from leavetaking.hurrying import hurry


def is_closed(case, levels, come):
    """Whether the levels are closed up to this number of guests come and bar the end."""
    levels = frozen(levels)
    return all([_is_closed_at(case, levels, k) for k in range(come + 1)]) and _is_end_barred(case, levels, come)


def waiting(case):
    """The events that do not happen in the hurried evening, each with its bars; nothing if it is whole."""
    hurried = hurry(case)
    happened = [step[:2] for step in hurried.steps]
    gone = [guest for word, guest in happened if word == "out"]
    events = [event for event in events_of(case.house) if event not in happened]
    return tuple([(event, bars(case, hurried.come, gone, event)) for event in events])


def least_come(case, guests):
    """The least number of guests come with which all these guests can have left; None if no evening fits."""
    hurried = hurry(case)
    if not hurried.whole:
        return None
    levels = {guest: level for guest, level in zip(case.house.guests, hurried.levels)}
    return max([levels[guest] for guest in frozen(guests)], default=0)


def gone_at(case, come):
    """The guests that left in the hurried evening before more guests than this came, in house order."""
    return tuple(_lot_at(case, hurry(case).levels, come))


def _lot_at(case, levels, k):
    """The lot at this number, as the keys of a dict."""
    return {guest: True for guest, level in zip(case.house.guests, levels) if level is not None and level <= k}


def _is_closed_at(case, levels, k):
    """Whether nobody outside of the lot at this number may leave with so many come."""
    came = first_come(case, k)
    lot = _lot_at(case, levels, k)
    leavings = [("out", guest) for guest in case.house.guests if guest not in lot]
    return not any([may_happen(case, came, lot, leaving) for leaving in leavings])


def _is_end_barred(case, levels, come):
    """Whether the evening can neither go on with a coming nor be at its end with so many come."""
    came = first_come(case, come)
    lot = _lot_at(case, levels, come)
    for guest in case.book[len(came):len(came) + 1]:
        coming = ("in", guest)
        return not may_happen(case, came, lot, coming)
    return len(lot) < len(case.house)
