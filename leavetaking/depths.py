"""Depths and evenings that let an order of worth, and houses with one (point 66)."""

from leavetaking.common import frozen, index_lots
from leavetaking.houses import House
from leavetaking.peeling import peel
from leavetaking.seen import Seen
from leavetaking.takings import takings


def least_depth(seen):
    """The least depth with which, if it is that of every guest, an order fits; None if the ties let no order."""
    # With as many cloaks as there are, whatever hangs is explained.
    for depth in range(1, len(seen.guests) + 1):
        depths = [depth] * len(seen.guests)
        if peel(Seen(seen.guests, seen.takings, depths, seen.ties)).order is not None:
            return depth
    return None


def least_doubted(house, evenings, depths):
    """The first lot of indexes of evenings without which some order explains all takings with these depths."""
    taken = [takings(house, evening) for evening in evenings]
    lots = index_lots(len(taken))
    at = 0
    # The last lot has all evenings, and without any taking each order will do.
    while not _is_explained(house, taken, depths, lots[at]):
        at += 1
    return lots[at]


def ordered_house(house, order, depths):
    """The house in which everybody likes the cloaks in this order, with these depths and without a number of pegs."""
    order = frozen(order)
    worth = [len(order) - order.index(cloak) for cloak in house.guests]
    ordered = House(house.guests, worth=worth, brings=house.brings)
    for guest, depth in zip(house.guests, depths):
        ordered = ordered.choosing(guest, depth)
    return ordered


def _is_explained(house, taken, depths, lot):
    """Whether some order explains all takings of the evenings outside of the lot."""
    kept = [taking for index, row in enumerate(taken) if index not in lot for taking in row]
    return peel(Seen(house.guests, kept, depths)).order is not None
