"""What facts say of an evening (points 15 and 17)."""

from leavetaking.common import frozen
from leavetaking.evenings import book_of, place_of, row_of
from leavetaking.facts import contrary
from leavetaking.standings import hung_at, room_at


def holds(house, evening, fact):
    """Whether the fact holds in the evening."""
    evening = frozen(evening)
    fact = frozen(fact)
    if fact[0] in ("spared", "bare", "away", "ahead", "settled"):
        return not _is_so(house, evening, contrary(fact))
    return _is_so(house, evening, fact)


def _is_so(house, evening, fact):
    """The same for one kind of each two that are contrary to each other."""
    kind = fact[0]
    if kind == "wore":
        return ("out", fact[1], fact[2]) in evening
    if kind == "before":
        return place_of(evening, fact[1]) < place_of(evening, fact[2])
    if kind == "chose":
        return _better_hung(house, evening, fact[1]) < fact[2]
    event, count, told = fact[1:]
    so = _so_at(house, evening, kind, event)
    return len([item for item in told if item in so]) >= count


def _so_at(house, evening, kind, event):
    """At the event: what had happened, who was in the room or what hung, as the kind asks for."""
    if kind == "after":
        return [step[:2] for step in evening[:place_of(evening, event)]]
    standing = _standing_at(evening, event)
    if kind == "there":
        return room_at(house, book_of(evening), standing)
    return hung_at(house, book_of(evening), standing)


def _better_hung(house, evening, guest):
    """How many cloaks that the guest likes better than the one it took hung when it left."""
    event = ("out", guest)
    _, _, taken = evening[place_of(evening, event)]
    hung = hung_at(house, book_of(evening), _standing_at(evening, event))
    return len(house.better_among(guest, taken, hung))


def _standing_at(evening, event):
    """The standing immediately before the step of the event."""
    ahead = evening[:place_of(evening, event)]
    # The leavings are left in the order of the evening: what hangs and who is there does not depend on it.
    return (len(book_of(ahead)), row_of(ahead))
