"""What facts say of an evening (points 15 and 17)."""

from leavetaking.common import frozen
from leavetaking.evenings import book_of, place_of, row_of
from leavetaking.facts import contrary, event_about
from leavetaking.standings import hung_at, room_at


def holds(house, evening, fact):
    """Whether the fact holds in the evening."""
    evening = frozen(evening)
    fact = frozen(fact)
    place = place_of(evening, event_about(fact))
    ahead = evening[:place]
    # The leavings are left in the order of the evening: what hangs and who is there does not depend on it.
    standing = (len(book_of(ahead)), row_of(ahead))
    return is_so(house, book_of(evening), standing, evening[place], fact)


def is_so(house, book, standing, step, fact):
    """Whether it is so what the fact says, if this is the step of the event that it is about, made at the standing."""
    kind = fact[0]
    if kind in ("spared", "bare", "away", "ahead", "settled"):
        return not is_so(house, book, standing, step, contrary(fact))
    if kind == "wore":
        return step[2] == fact[2]
    if kind == "before":
        return fact[1] in _happened_at(book, standing)
    if kind == "chose":
        return len(house.better_among(fact[1], step[2], hung_at(house, book, standing))) < fact[2]
    _, _, count, told = fact
    there = _there_at(house, book, standing, kind)
    return len([item for item in told if item in there]) >= count


def _there_at(house, book, standing, kind):
    """At the standing: what has happened, who is in the room or what hangs, as the kind asks for."""
    if kind == "after":
        return _happened_at(book, standing)
    if kind == "there":
        return room_at(house, book, standing)
    return hung_at(house, book, standing)


def _happened_at(book, standing):
    """The events that have happened at the standing."""
    come, gone = standing
    return [("in", guest) for guest in book[:come]] + [("out", guest) for guest, _ in gone]
