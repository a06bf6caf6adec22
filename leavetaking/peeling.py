"""Orders of worth found by taking off one cloak after the other, from the worst to the best (points 62 and 63)."""

from leavetaking.common import frozen


class Peel:
    """An order that fits what was seen, or the cloaks that were left because none of them may be taken off."""

    def __init__(self, order, left):
        self.order = order
        self.left = left


def peel(seen):
    """What comes about if the last cloak in house order that may be taken off is taken off again and again."""
    left = seen.guests
    order = ()
    cloak = _next_off(seen, left)
    while cloak is not None:
        left = tuple([other for other in left if other != cloak])
        order = (cloak,) + order
        cloak = _next_off(seen, left)
    return Peel(None, left) if left else Peel(order, ())


def is_stuck(seen, lot):
    """Whether the lot of cloaks is stuck: none of them may be the one that is worth least."""
    lot = frozen(lot)
    return len(lot) > 0 and all([seen.is_held(cloak, lot) for cloak in lot])


def _next_off(seen, left):
    """The last cloak of those left that may be taken off, or None."""
    for cloak in left[::-1]:
        if not seen.is_held(cloak, left):
            return cloak
    return None
