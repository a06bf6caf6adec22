"""What was seen of guests that all have one unknown order of worth (points 60 and 61)."""

from leavetaking.common import frozen
from leavetaking.errors import BadDepth, BadTaking, BadTie
from leavetaking.names import own_names


class Seen:
    """What was seen never changes: what would change it gives something new."""

    def __init__(self, guests, takings, depths, ties=()):
        self.guests = own_names(guests)
        self.depths = _checked_depths(frozen(depths))
        self.takings = _checked_takings(self.guests, frozen(takings))
        self.ties = _checked_ties(self.guests, frozen(ties))
        # Found once, because peeling asks for them over and over.
        self._limits = _limits(self.guests, self.takings, self.depths)
        self._worse = {cloak: [worse for better, worse in self.ties if better == cloak] for cloak in self.guests}

    def tied(self, better, worse):
        """The same with one more tie at the end."""
        return Seen(self.guests, self.takings, self.depths, self.ties + ((better, worse),))

    def is_held(self, cloak, lot):
        """Whether the cloak, one of the lot, cannot be the one of the lot that is worth least.

        Then there is a taking of it with more hanging cloaks in the lot than the depth of the guest, or a tie with it
        as the better one and another cloak of the lot as the worse one.
        """
        for hanging, depth in self._limits[cloak]:
            if len([other for other in hanging if other in lot]) > depth:
                return True
        return any([other in lot for other in self._worse[cloak]])


def explains(order, taking, depth):
    """Whether the order explains the taking with this depth."""
    order = frozen(order)
    _, cloak, hanging = frozen(taking)
    ahead = order[:order.index(cloak)]
    return len([other for other in hanging if other in ahead]) < depth


def fits_seen(seen, order):
    """Whether the order fits what was seen."""
    order = frozen(order)
    depth_of = {guest: depth for guest, depth in zip(seen.guests, seen.depths)}
    if not all([explains(order, taking, depth_of[taking[0]]) for taking in seen.takings]):
        return False
    return all([order.index(better) < order.index(worse) for better, worse in seen.ties])


def _limits(guests, takings, depths):
    """For each cloak the hanging cloaks of its takings, each with the depth of the guest of the taking."""
    depth_of = {guest: depth for guest, depth in zip(guests, depths)}
    return {cloak: [(hanging, depth_of[guest]) for guest, taken, hanging in takings if taken == cloak]
            for cloak in guests}


def _checked_depths(depths):
    for depth in depths:
        if depth < 1:
            raise BadDepth(depth)
    return depths


def _checked_takings(guests, takings):
    for index, (guest, cloak, hanging) in enumerate(takings):
        in_order = tuple([other for other in guests if other in hanging])
        if guest not in guests or cloak not in hanging or hanging != in_order:
            raise BadTaking(index)
    return takings


def _checked_ties(guests, ties):
    for index, tie in enumerate(ties):
        if len(tie) != 2 or tie[0] == tie[1] or not all([cloak in guests for cloak in tie]):
            raise BadTie(index)
    return ties
