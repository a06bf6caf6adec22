"""Games in which a host decides when its guests leave and in which cloaks, and a foe the rest (points 80 to 82)."""

from leavetaking.books import own_book
from leavetaking.claims import check_claim
from leavetaking.common import frozen
from leavetaking.errors import NotLet
from leavetaking.houses import check_guests
from leavetaking.rulings import Ruling
from leavetaking.standings import START, moved, steps_at


class Game:
    """A game never changes."""

    def __init__(self, house, book, host, claim):
        self.house = house
        self.book = own_book(house, book)
        check_guests(house, host)
        self.host = tuple([guest for guest in house.guests if guest in host])
        check_claim(house, claim)
        self.claim = claim
        self.ruling = Ruling(house, self.book, claim)


def start_position(game):
    """The position with which the play begins."""
    return (START, game.ruling.unmarked(), "host")


def options(game, position):
    """What the one who has the turn may do, in order."""
    return options_at(game, frozen(position))


def next_position(game, position, choice):
    """The position after the choice."""
    position = frozen(position)
    choice = frozen(choice)
    if choice not in options_at(game, position):
        raise NotLet(choice)
    return position_after(game, position, choice)


# The following two are for tuples, and for choices that are options.


def options_at(game, position):
    """What `options` tells."""
    standing, _, turn = position
    steps = steps_at(game.house, game.book, standing)
    host_steps = tuple([step for step in steps if _is_of_host(game, step)])
    foe_steps = tuple([step for step in steps if not _is_of_host(game, step)])
    if turn == "foe":
        return foe_steps
    return host_steps + (None,) if foe_steps else host_steps


def position_after(game, position, choice):
    """What `next_position` tells."""
    standing, marks, _ = position
    if choice is None:
        return (standing, marks, "foe")
    # Behind a step of either side the host has the turn.
    return (moved(game.house, standing, choice), game.ruling.marked(standing, marks, choice), "host")


def _is_of_host(game, step):
    """Whether the step is the host's."""
    return step[0] == "out" and step[1] in game.host
