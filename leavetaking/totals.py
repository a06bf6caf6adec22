"""The greatest total of weights of the long evenings of a custom (points 93 and 94)."""

from leavetaking.common import frozen
from leavetaking.customs import custom_start
from leavetaking.longevenings import backward_arrows, leading_to, led_from, live, live_graph


class Total:
    """The greatest total with what shows it, or a ring that shows that there is none."""

    def __init__(self, word, total, evening, prices, ring):
        self.word = word
        self.total = total
        self.evening = evening
        self.prices = prices
        self.ring = ring


def greatest_total(custom, weights):
    """The greatest total of all long evenings with these weights."""
    conditions, arrows = live_graph(custom)
    if not conditions:
        return Total("none", None, None, None, None)
    ends = [at for at, condition in enumerate(conditions) if custom.may_end(condition)]
    prices, best = _best_ways(ends, arrows, _by_leaving(weights))
    turn = _turn_in(best)
    if turn is not None:
        ring = (_moves_to(arrows, turn), _moves_round(best, turn), _moves_on(leading_to(ends, arrows), turn))
        return Total("unbounded", None, None, None, ring)
    table = tuple([(condition, price) for condition, price in zip(conditions, prices)])
    return Total("bounded", prices[0], _moves_on(best, 0), table, None)


def is_price_table(custom, weights, table, total):
    """Whether the table shows that no long evening has a greater total."""
    prices = {}
    for condition, price in frozen(table):
        if prices.setdefault(condition, price) != price:
            return False
    alive = live(custom)
    if not all([condition in prices for condition in alive]):
        return False
    if alive and prices[custom_start(custom)] > total:
        return False
    by_leaving = _by_leaving(weights)
    return all([_is_paid(custom, by_leaving, condition, prices) for condition in prices])


def is_ring(custom, weights, ring):
    """Whether the ring shows that there are long evenings with totals as great as one likes."""
    before, around, behind = frozen(ring)
    conditions = led_from(custom, custom_start(custom), before + around + behind)
    if len(conditions) <= len(before + around + behind) or not custom.may_end(conditions[-1]):
        return False
    if conditions[len(before)] != conditions[len(before + around)]:
        return False
    by_leaving = _by_leaving(weights)
    return sum([_weight(by_leaving, move) for move in around]) >= 1


def _by_leaving(weights):
    """The weight of each pair of kinds that has one."""
    return {(kind, cloak): weight for kind, cloak, weight in frozen(weights)}


def _weight(by_leaving, move):
    """The weight of the move; a coming has none."""
    return by_leaving.get(move[1:], 0) if move[0] == "out" else 0


def _is_paid(custom, by_leaving, condition, prices):
    """Whether the price of the condition is great enough for its end and for each of its moves within the table."""
    price = prices[condition]
    if custom.may_end(condition) and price < 0:
        return False
    return all([price >= _weight(by_leaving, move) + prices[after]
                for move, after in custom.moves_at(condition) if after in prices])


# Below, conditions are indexes. A way on from each of them is an arrow, a move with the index after it, or None where
# the evening ends.


def _best_ways(ends, arrows, by_leaving):
    """The greatest sum of weights from each condition to one that ends, and for each of them the best way on.

    If the ways on lead around, then the sums can be made as great as one likes.
    """
    backward = backward_arrows(arrows)
    best = {at: None for at in ends}
    prices = [0 if at in best else None for at in range(len(arrows))]
    changed = ends
    # A way on is changed only if this makes a sum greater: so each ring of them has a weight of at least 1.
    while changed and _turn_in(best) is None:
        further = {}
        for after in changed:
            for at, arrow in backward[after]:
                price = _weight(by_leaving, arrow[0]) + prices[after]
                if prices[at] is None or price > prices[at]:
                    prices[at] = price
                    best[at] = arrow
                    further[at] = True
        changed = list(further)
    return (prices, best)


def _turn_in(ways):
    """An index to which the ways on lead back from it, or None."""
    known = {}
    for first in ways:
        at = first
        while at not in known:
            known[at] = first
            if ways[at] is not None:
                _, at = ways[at]
        if known[at] == first and ways[at] is not None:
            return at
    return None


def _moves_on(ways, at):
    """The moves along the ways on to one that ends."""
    moves = []
    while ways[at] is not None:
        move, at = ways[at]
        moves.append(move)
    return tuple(moves)


def _moves_round(ways, first):
    """The moves along the ways on until they lead back."""
    move, at = ways[first]
    moves = [move]
    while at != first:
        move, at = ways[at]
        moves.append(move)
    return tuple(moves)


def _moves_to(arrows, end):
    """Moves that lead from the first condition to this one."""
    return _moves_on(leading_to([end], arrows), 0)
