"""Houses: guests, their cloaks, tastes and depths, and the pegs (points 6 to 8)."""

from leavetaking.common import frozen
from leavetaking.errors import BadBrings, BadDepth, BadPegs, BadTaste, UnknownGuest
from leavetaking.names import own_names


class House:
    """A house never changes: what would change it gives a new one."""

    def __init__(self, guests, *, worth=None, brings=None, pegs=None):
        self.guests = own_names(guests)
        self._places = {guest: place for place, guest in enumerate(self.guests)}
        self._tastes = (_checked_worth(self.guests, frozen(worth)),) * len(self.guests)
        self._depths = (1,) * len(self.guests)
        self.brings = _checked_brings(self.guests, frozen(brings))
        self.pegs = _checked_pegs(pegs)

    def liking(self, guest, worth):
        """The house in which the guest has this taste."""
        place = self._place(guest)
        house = self._remade(self.brings, self.pegs)
        house._tastes = _with_item(self._tastes, place, _checked_worth(self.guests, frozen(worth)))
        return house

    def choosing(self, guest, depth):
        """The house in which the guest has this depth."""
        place = self._place(guest)
        if depth < 1:
            raise BadDepth(depth)
        house = self._remade(self.brings, self.pegs)
        house._depths = _with_item(self._depths, place, depth)
        return house

    def bringing(self, brings):
        """The house in which these cloaks are brought."""
        return self._remade(brings, self.pegs)

    def with_pegs(self, pegs):
        """The house with this number of pegs, or with as many as needed."""
        return self._remade(self.brings, pegs)

    def taste(self, guest):
        """The numbers that the guest gives the cloaks, in house order."""
        return self._tastes[self._place(guest)]

    def depth(self, guest):
        """The depth of the guest."""
        return self._depths[self._place(guest)]

    def brought(self, guest):
        """The cloak that the guest brings."""
        return self.brings[self._place(guest)]

    def bringer(self, cloak):
        """The guest that brings the cloak."""
        self._place(cloak)
        return self.guests[self.brings.index(cloak)]

    def better(self, guest, cloak):
        """All cloaks that the guest likes better than this one, in house order."""
        return self.better_among(guest, cloak, self.guests)

    def better_among(self, guest, cloak, cloaks):
        """Those of the cloaks, in their order, that the guest likes better than this one."""
        taste = self.taste(guest)
        least = taste[self._place(cloak)]
        return tuple([other for other in cloaks if taste[self._places[other]] > least])

    def __len__(self):
        return len(self.guests)

    def __iter__(self):
        return iter(self.guests)

    def __contains__(self, value):
        return value in self.guests

    def __eq__(self, other):
        return (isinstance(other, House) and self.guests == other.guests and self._tastes == other._tastes
                and self._depths == other._depths and self.brings == other.brings and self.pegs == other.pegs)

    def _place(self, name):
        """The index of the guest, or of its cloak, in house order."""
        if name not in self._places:
            raise UnknownGuest(name)
        return self._places[name]

    def _remade(self, brings, pegs):
        """The house with the same tastes and depths, and with these cloaks brought and these pegs."""
        house = House(self.guests, brings=brings, pegs=pegs)
        house._tastes = self._tastes
        house._depths = self._depths
        return house


def check_guests(house, names):
    """UnknownGuest for the first of the names that is not that of a guest."""
    for name in names:
        if name not in house:
            raise UnknownGuest(name)


def _checked_worth(guests, worth):
    """The taste that is meant by `worth`."""
    if worth is None:
        return tuple(range(len(guests), 0, -1))
    if len(worth) != len(guests):
        raise BadTaste()
    return worth


def _checked_brings(guests, brings):
    """The cloaks that are meant by `brings`."""
    if brings is None:
        return guests
    if sorted(brings) != sorted(guests):
        raise BadBrings()
    return brings


def _checked_pegs(pegs):
    if pegs is not None and pegs < 1:
        raise BadPegs(pegs)
    return pegs


def _with_item(row, place, item):
    """The tuple with this item in the place of the one that stands there."""
    return row[:place] + (item,) + row[place + 1:]
