"""Who wins a game, and by which choices (points 83 and 84)."""

from leavetaking.common import frozen, index_lots
from leavetaking.games import Game, options_at, position_after, start_position


class Outcome:
    """The winner of a game, and its choices."""

    def __init__(self, winner, table):
        self.winner = winner
        self.table = table


def solve(game):
    """The outcome of the game."""
    known = {}
    first = start_position(game)
    winner = "host" if _is_won_by_host(game, first, known) else "foe"
    table = []
    queue = [first]
    found = {first: True}
    at = 0
    while at < len(queue):
        position = queue[at]
        choices = options_at(game, position)
        if choices and position[2] == winner:
            choices = (_winning_choice(game, position, winner, known),)
            table.append((position, choices[0]))
        _add_next(game, position, choices, queue, found)
        at += 1
    return Outcome(winner, tuple(table))


def is_host_table(game, table):
    """Whether the host wins each play in which it chooses by the table."""
    return _is_table(game, table, "host")


def is_foe_table(game, table):
    """Whether the foe wins each play in which it chooses by the table."""
    return _is_table(game, table, "foe")


def least_host(house, book, claim):
    """The smallest lot of guests with which the host wins, or None."""
    everybody = Game(house, book, house.guests, claim)
    for lot in index_lots(len(house)):
        game = Game(house, everybody.book, [house.guests[index] for index in lot], claim)
        if _is_won_by_host(game, start_position(game), {}):
            return game.host
    return None


def _is_won_by_host(game, position, known):
    """Whether the host can win from the position. What is `known` already is not found again."""
    standing, marks, turn = position
    rest = game.ruling.rest(marks)
    if rest is True or rest is False:
        # Whatever is done from here on, the claim is kept, or it is broken.
        return rest
    state = (standing, rest, turn)
    if state not in known:
        choices = options_at(game, position)
        is_hosts = turn == "host"
        known[state] = is_hosts == _is_one_won(game, position, choices, is_hosts, known)
    return known[state]


def _is_one_won(game, position, choices, is_hosts, known):
    """Whether one of the choices leads to a position won for the host, or for the foe."""
    for choice in choices:
        if _is_won_by_host(game, position_after(game, position, choice), known) == is_hosts:
            return True
    return False


def _winning_choice(game, position, winner, known):
    """The first option that leads to a position won for the winner, from a position that is."""
    is_hosts = winner == "host"
    for choice in options_at(game, position):
        if _is_won_by_host(game, position_after(game, position, choice), known) == is_hosts:
            return choice
    return None


def _add_next(game, position, choices, queue, found):
    """The positions after the choices, as far as they are new, stand at the end of the queue from now on."""
    for choice in choices:
        after = position_after(game, position, choice)
        if after not in found:
            found[after] = True
            queue.append(after)


def _is_table(game, table, side):
    """Whether the side wins each play in which it chooses by the table."""
    chosen = {}
    for position, choice in frozen(table):
        chosen.setdefault(position, choice)
    queue = [start_position(game)]
    found = {queue[0]: True}
    at = 0
    while at < len(queue):
        position = queue[at]
        choices = options_at(game, position)
        if not choices and game.ruling.rest(position[1]) != (side == "host"):
            return False
        if choices and position[2] == side:
            if position not in chosen or chosen[position] not in choices:
                return False
            choices = (chosen[position],)
        _add_next(game, position, choices, queue, found)
        at += 1
    return True
