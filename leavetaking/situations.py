"""The situations of a case without a book, and its evenings (points 69 to 71)."""

from leavetaking.bars import lot_of, may_happen
from leavetaking.common import frozen


def rested(case, come, gone):
    """The situation that is reached if guests leave as long as some leaving may happen."""
    came = lot_of(come)
    left = lot_of(gone)
    leavers = _leavers(case, came, left)
    return (_in_order(case, came), _in_order(case, list(left) + leavers))


def open_situations(case):
    """All situations at rest that are reached by comings from nobody come, in the order in which they are found."""
    return tuple(_ways_found(case))


def open_evening(case):
    """The evening along the situations by which everybody was first found to have come and gone, or None."""
    found = _ways_found(case)
    guests = case.house.guests
    if (guests, guests) not in found:
        return None
    ways = []
    way = found[guests, guests]
    while way is not None:
        ways.append(way)
        situation, _ = way
        way = found[situation]
    steps = []
    for (come, gone), comer in ways[::-1]:
        steps.append(("in", comer))
        leavers = _leavers(case, lot_of(come + (comer,)), lot_of(gone))
        steps.extend([("out", guest, case.worn(guest)) for guest in leavers])
    return tuple(steps)


def is_open_table(case, table):
    """Whether the table shows that no evening fits the case."""
    situations = [(_in_order(case, come), _in_order(case, gone)) for come, gone in frozen(table)]
    guests = case.house.guests
    if (guests, guests) in situations or not any([come == () for come, _ in situations]):
        return False
    return all([_is_followed(case, come, gone, situations) for come, gone in situations])


def _ways_found(case):
    """All situations of `open_situations`, each with the situation and the coming by which it was first found."""
    first = rested(case, (), ())
    found = {first: None}
    queue = [first]
    at = 0
    while at < len(queue):
        come, gone = queue[at]
        for guest in _comers(case, come, gone):
            situation = rested(case, come + (guest,), gone)
            if situation not in found:
                found[situation] = ((come, gone), guest)
                queue.append(situation)
        at += 1
    return found


def _is_followed(case, come, gone, situations):
    """Whether nobody else may leave in the situation, and a situation of these stands for each coming from it."""
    if _leavers(case, lot_of(come), lot_of(gone)):
        return False
    return all([_is_reached(case, come + (guest,), gone, situations) for guest in _comers(case, come, gone)])


def _is_reached(case, come, gone, situations):
    """Whether one of the situations has just these guests come and all these gone."""
    due = _in_order(case, come)
    return any([come_there == due and all([guest in gone_there for guest in gone])
                for come_there, gone_there in situations])


def _comers(case, come, gone):
    """The guests whose coming may happen in the situation, in house order."""
    came = lot_of(come)
    left = lot_of(gone)
    return [guest for guest in case.house.guests if may_happen(case, came, left, ("in", guest))]


def _leavers(case, came, gone):
    """The guests that leave as long as a leaving may happen, in order: always the first one in house order."""
    left = {guest: True for guest in gone}
    leavers = []
    guest = _next_leaver(case, came, left)
    while guest is not None:
        left[guest] = True
        leavers.append(guest)
        guest = _next_leaver(case, came, left)
    return leavers


def _next_leaver(case, came, gone):
    """The first guest in house order whose leaving may happen, or None."""
    for guest in case.house.guests:
        if may_happen(case, came, gone, ("out", guest)):
            return guest
    return None


def _in_order(case, lot):
    """The guests of the lot in house order."""
    return tuple([guest for guest in case.house.guests if guest in lot])
