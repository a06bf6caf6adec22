"""Which cloaks are sure to be worth more than which (point 64)."""

from leavetaking.errors import NoOrder
from leavetaking.peeling import peel


class Liking:
    """A word on the claim that one cloak is worth more than another, with the orders and the lot that show it."""

    def __init__(self, word, keeping, breaking, left):
        self.word = word
        self.keeping = keeping
        self.breaking = breaking
        self.left = left


def liking(seen, one, two):
    """The word on the claim that the one cloak is worth more than the other one."""
    kept = peel(seen.tied(one, two))
    broken = peel(seen.tied(two, one))
    if kept.order is None and broken.order is None:
        return Liking("none", None, None, peel(seen).left)
    if kept.order is None:
        return Liking("never", None, broken.order, kept.left)
    if broken.order is None:
        return Liking("sure", kept.order, None, broken.left)
    return Liking("open", kept.order, broken.order, ())


def sure_likings(seen):
    """All pairs of cloaks of which the first one is worth more than the second one in every order that fits."""
    if peel(seen).order is None:
        raise NoOrder()
    return tuple([(one, two) for one in seen.guests for two in seen.guests
                  if one != two and peel(seen.tied(two, one)).order is None])
