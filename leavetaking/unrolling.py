"""Long evenings with names: an evening of a house for a long evening of a custom (point 96)."""

from leavetaking.common import frozen
from leavetaking.errors import NoEvening
from leavetaking.houses import House
from leavetaking.longevenings import custom_walk


def unrolled(custom, moves):
    """The house, the book and the evening of the long evening, in which the guests have names."""
    moves = frozen(moves)
    conditions = custom_walk(custom, moves)
    kinds = [move[1] for move in moves if move[0] == "in"]
    if not kinds or not custom.may_end(conditions[-1]):
        raise NoEvening()
    house = _named_house(custom.house, kinds)
    return (house, house.guests, _named_steps(custom.house, moves))


def _named_house(house, kinds):
    """The house of guests of these kinds, in the order of their comings."""
    named = House([_name(number) for number in range(len(kinds))], pegs=house.pegs)
    cloaks = [house.brought(kind) for kind in kinds]
    for number, kind in enumerate(kinds):
        worth = {cloak: value for cloak, value in zip(house.guests, house.taste(kind))}
        named = named.liking(_name(number), [worth[cloak] for cloak in cloaks])
        named = named.choosing(_name(number), house.depth(kind))
    return named


def _named_steps(house, moves):
    """The steps of the guests for the moves."""
    room = {kind: [] for kind in house.guests}
    hung = {cloak: [] for cloak in house.guests}
    steps = []
    come = 0
    for move in moves:
        if move[0] == "in":
            room[move[1]].append(_name(come))
            hung[house.brought(move[1])].append(_name(come))
            steps.append(("in", _name(come)))
            come += 1
        else:
            # Of several alike, the one that came first leaves, and the cloak that came first is taken.
            steps.append(("out", room[move[1]].pop(0), hung[move[2]].pop(0)))
    return tuple(steps)


def _name(number):
    return f"g{number}"
