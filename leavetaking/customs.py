"""Customs, by which guests come in kinds, and the moves of their evenings (points 88 and 89)."""

from leavetaking.common import different, frozen
from leavetaking.errors import BadPegs
from leavetaking.houses import check_guests


class Custom:
    """A custom never changes."""

    def __init__(self, house, arrows, ends):
        if house.pegs is None:
            raise BadPegs(None)
        self.house = house
        self.arrows = _own_arrows(house, frozen(arrows))
        self.ends = tuple(sorted(set(frozen(ends))))
        # Found once, because whoever goes through the conditions asks for them over and over.
        self._comings = _comings(house, self.arrows)
        self._rivals = _rivals(house)

    def moves_at(self, condition):
        """What `custom_moves` tells of a condition that is a tuple at every level."""
        state, hung, room = condition
        moves = []
        if sum(hung) < self.house.pegs:
            for move, cloak, kind in self._comings.get(state, ()):
                moves.append((move, (move[2], _changed(hung, cloak, 1), _changed(room, kind, 1))))
        for move, cloak, kind, rivals, depth in self._rivals:
            if room[kind] and hung[cloak] and sum([hung[rival] for rival in rivals]) < depth:
                moves.append((move, (state, _changed(hung, cloak, -1), _changed(room, kind, -1))))
        return tuple(moves)

    def may_end(self, condition):
        """Whether the condition ends."""
        state, _, room = condition
        return state in self.ends and not any(room)


def custom_start(custom):
    """The first condition."""
    none = (0,) * len(custom.house)
    return (0, none, none)


def custom_moves(custom, condition):
    """All moves that are let at the condition, in order, each with the condition after it."""
    return custom.moves_at(frozen(condition))


def _own_arrows(house, arrows):
    """The different arrows in order; UnknownGuest for the first one whose kind is not one of the house."""
    check_guests(house, [kind for _, kind, _ in arrows])
    places = {kind: place for place, kind in enumerate(house.guests)}
    return tuple(sorted(different(arrows), key=lambda arrow: (arrow[0], places[arrow[1]], arrow[2])))


def _comings(house, arrows):
    """For each state the comings that it lets, in order, each with the places of the cloak and of the kind."""
    places = {kind: place for place, kind in enumerate(house.guests)}
    found = {}
    for state, kind, after in arrows:
        found.setdefault(state, []).append((("in", kind, after), places[house.brought(kind)], places[kind]))
    return found


def _rivals(house):
    """All leavings, in order, each with the places of the cloak and of the kind, those of the better cloaks and the
    depth.
    """
    places = {kind: place for place, kind in enumerate(house.guests)}
    return tuple([(("out", kind, cloak), places[cloak], places[kind],
                   tuple([places[rival] for rival in house.better(kind, cloak)]), house.depth(kind))
                  for kind in house.guests for cloak in house.guests])


def _changed(counts, place, change):
    """The counts with a change at this place."""
    return counts[:place] + (counts[place] + change,) + counts[place + 1:]
