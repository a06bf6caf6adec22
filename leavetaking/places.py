"""All orders of worth that fit, and the places of a cloak in them (point 65)."""

from leavetaking.errors import NoOrder, UnknownGuest


def orders(seen):
    """All orders that fit what was seen, ascending."""
    lots = _lots_left(seen, None)
    yield from _orders_from(seen, lots, None, ())


def order_count(seen):
    """The number of the orders that fit."""
    return _lots_left(seen, None).get((), 0)


def place_range(seen, cloak):
    """The least and the greatest place of the cloak in an order that fits."""
    _check_cloak(seen, cloak)
    lots = list(_lots_left(seen, None))
    if () not in lots:
        raise NoOrder()
    places = [len(lot) - 1 for lot in lots if cloak in _loose(seen, lot, None)]
    return (min(places), max(places))


def order_with_place(seen, cloak, place):
    """The least order that fits and has the cloak at this place, or None."""
    _check_cloak(seen, cloak)
    due = (cloak, place)
    lots = _lots_left(seen, due)
    for order in _orders_from(seen, lots, due, ()):
        return order
    return None


def _check_cloak(seen, cloak):
    if cloak not in seen.guests:
        raise UnknownGuest(cloak)


# Below, `due` is None or a cloak and its place: it is taken off when just so many others are left. What may be taken
# off depends on the cloaks that are left alone, not on the order in which the others were taken off. So the lots that
# can be left are gone through, which are far fewer than the orders.


def _lots_left(seen, due):
    """All lots that can be left while cloaks are taken off, in house order, each with the number of ways to it."""
    found = {seen.guests: 1}
    layer = [seen.guests]
    while layer:
        further = {}
        for lot in layer:
            for cloak in _loose(seen, lot, due):
                rest = tuple([other for other in lot if other != cloak])
                further[rest] = further.get(rest, 0) + found[lot]
        for lot, many in further.items():
            found[lot] = many
        layer = list(further)
    return found


def _loose(seen, lot, due):
    """The cloaks of the lot that may be taken off if just these are left."""
    if due is None:
        return [cloak for cloak in lot if not seen.is_held(cloak, lot)]
    due_cloak, place = due
    is_turn = len(lot) == place + 1
    return [cloak for cloak in lot if (cloak == due_cloak) == is_turn and not seen.is_held(cloak, lot)]


def _orders_from(seen, lots, due, begun):
    """All orders that begin with these cloaks, ascending; the lots are those that can be left."""
    if len(begun) == len(seen.guests):
        yield begun
    for cloak in seen.guests:
        if cloak not in begun:
            longer = begun + (cloak,)
            lot = tuple([other for other in seen.guests if other in longer])
            # From such a lot there is a way back to all cloaks, so no beginning is followed in vain.
            if lot in lots and cloak in _loose(seen, lot, due):
                yield from _orders_from(seen, lots, due, longer)
