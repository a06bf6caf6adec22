"""The hurried evening of a case, the earliest one for every guest at once (points 28 and 29)."""

from leavetaking.bars import may_happen


class Hurry:
    """A hurried evening: its steps, how many came, with how many come each guest left, and whether all left."""

    def __init__(self, steps, come, levels):
        self.steps = steps
        self.come = come
        self.levels = levels
        self.whole = None not in levels


def hurry(case):
    """The hurried evening of the case."""
    came = {}
    levels = {}
    steps = []
    event = _next_event(case, came, levels)
    while event is not None:
        word, guest = event
        if word == "in":
            came[guest] = True
            steps.append(event)
        else:
            levels[guest] = len(came)
            steps.append(("out", guest, case.worn(guest)))
        event = _next_event(case, came, levels)
    return Hurry(tuple(steps), len(came), tuple([levels.get(guest) for guest in case.house.guests]))


def _next_event(case, came, gone):
    """The event that happens next, or None at the end."""
    # All other events have the bar `turn`; to ask for it each time would take longer than all the rest.
    leavings = [("out", guest) for guest in case.house.guests if guest in came and guest not in gone]
    comings = [("in", guest) for guest in case.book[len(came):len(came) + 1]]
    for event in leavings + comings:
        if may_happen(case, came, gone, event):
            return event
    return None
