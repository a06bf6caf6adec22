"""What keeps an event of a case from happening in a situation (point 27)."""

from leavetaking.common import frozen


def bars(case, come, gone, event):
    """All bars of the event in the situation, in order."""
    came = first_come(case, come)
    left = lot_of(gone)
    event = frozen(event)
    return tuple(bars_at(case, came, left, event))


# From here on a situation is two dicts, whose keys are those who have come and those who are taken as gone. The cases
# may have a book or none: with a book, those who have come are the first ones of it.


def lot_of(guests):
    """The lot of these guests."""
    return {guest: True for guest in frozen(guests)}


def first_come(case, come):
    """The first guests of the book, as many as have come."""
    return {guest: True for place, guest in enumerate(case.book) if place < come}


def may_happen(case, came, gone, event):
    """Whether the event has no bar in the situation."""
    for _ in bars_at(case, came, gone, event):
        return False
    return True


def bars_at(case, came, gone, event):
    """What `bars` tells, one bar after the other."""
    word, guest = event
    if word == "in":
        yield from _coming_bars(case, came, gone, guest)
    else:
        yield from _leaving_bars(case, came, gone, guest)
    for index, fact in case.about(event):
        if _is_barring(case, came, gone, fact):
            yield ("fact", index)


def _coming_bars(case, came, gone, guest):
    """The bars of the coming of the guest, without those of the facts."""
    if not case.has_turn(came, guest):
        yield ("turn",)
    pegs = case.house.pegs
    if pegs is not None and _hanging_many(case, came, gone, case.house.guests) >= pegs:
        yield ("pegs",)


def _leaving_bars(case, came, gone, guest):
    """The bars of the leaving of the guest, without those of the facts."""
    if not _is_there(came, gone, guest):
        yield ("turn",)
    if case.bringer(case.worn(guest)) not in came:
        yield ("cloak",)
    if _hanging_many(case, came, gone, case.rivals(guest)) >= case.house.depth(guest):
        yield ("depth",)


def _is_barring(case, came, gone, fact):
    """Whether the fact keeps the event that it is about from happening in the situation."""
    if fact[0] == "before":
        return not _has_happened(came, gone, fact[1])
    if fact[0] == "chose":
        return _hanging_many(case, came, gone, case.rivals(fact[1])) >= fact[2]
    kind, _, count, told = fact
    if kind == "bare":
        return _hanging_many(case, came, gone, told) >= count
    if kind == "away":
        return len([guest for guest in told if _is_there(came, gone, guest)]) >= count
    return len([event for event in told if _has_happened(came, gone, event)]) < count


def _hanging_many(case, came, gone, cloaks):
    """How many of the cloaks hang."""
    return len([cloak for cloak in cloaks if case.bringer(cloak) in came and case.taker(cloak) not in gone])


def _is_there(came, gone, guest):
    return guest in came and guest not in gone


def _has_happened(came, gone, event):
    word, guest = event
    return guest in came if word == "in" else guest in gone
