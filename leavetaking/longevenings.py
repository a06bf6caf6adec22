"""Long evenings of a custom, and the conditions that come about in them (points 89 and 90)."""

from leavetaking.common import frozen
from leavetaking.customs import custom_start
from leavetaking.errors import BadStep


def custom_walk(custom, moves):
    """All conditions to which the moves lead, from the first one on."""
    moves = frozen(moves)
    conditions = led_from(custom, custom_start(custom), moves)
    if len(conditions) <= len(moves):
        raise BadStep(len(conditions) - 1)
    return tuple(conditions)


def is_long_evening(custom, moves):
    """Whether the moves are a long evening of the custom."""
    moves = frozen(moves)
    conditions = led_from(custom, custom_start(custom), moves)
    return len(conditions) == len(moves) + 1 and custom.may_end(conditions[-1])


def reached(custom):
    """All conditions to which moves lead from the first one, in the order in which they are found."""
    conditions, _ = condition_graph(custom)
    return tuple(conditions)


def live(custom):
    """Those of them from which moves, or none, lead to one that ends, in the same order."""
    conditions, _ = live_graph(custom)
    return tuple(conditions)


# The following are for tuples.


def led_from(custom, condition, moves):
    """The condition and the one after each of the moves, as far as these are let."""
    conditions = [condition]
    for move in moves:
        afters = [after for other, after in custom.moves_at(conditions[-1]) if other == move]
        if not afters:
            break
        conditions.append(afters[0])
    return conditions


def condition_graph(custom):
    """The conditions of `reached`, and for each of them its moves with the indexes of the conditions after them."""
    conditions = [custom_start(custom)]
    places = {conditions[0]: 0}
    arrows = []
    at = 0
    while at < len(conditions):
        condition = conditions[at]
        further = []
        for move, after in custom.moves_at(condition):
            if after not in places:
                places[after] = len(conditions)
                conditions.append(after)
            further.append((move, places[after]))
        arrows.append(further)
        at += 1
    return (conditions, arrows)


def live_graph(custom):
    """The same for the conditions of `live`, without the moves that lead to others."""
    conditions, arrows = condition_graph(custom)
    ends = [at for at, condition in enumerate(conditions) if custom.may_end(condition)]
    alive = leading_to(ends, arrows)
    kept = [at for at in range(len(conditions)) if at in alive]
    places = {at: place for place, at in enumerate(kept)}
    return ([conditions[at] for at in kept],
            [[(move, places[after]) for move, after in arrows[at] if after in places] for at in kept])


def leading_to(ends, arrows):
    """For each index from which arrows, or none, lead to one of the ends: the first arrow on a shortest way, or None.

    An arrow is a pair of a move and of the index after it.
    """
    backward = backward_arrows(arrows)
    found = {at: None for at in ends}
    queue = list(ends)
    place = 0
    while place < len(queue):
        here = queue[place]
        for at, arrow in backward[here]:
            if at not in found:
                found[at] = arrow
                queue.append(at)
        place += 1
    return found


def backward_arrows(arrows):
    """For each index the arrows that lead to it, each behind the index from which it leads."""
    found = [[] for _ in arrows]
    for at, row in enumerate(arrows):
        for move, after in row:
            found[after].append((at, (move, after)))
    return found
