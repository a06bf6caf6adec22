"""Whether all long evenings of a custom keep a watch (point 92)."""

from leavetaking.common import frozen
from leavetaking.customs import custom_start
from leavetaking.longevenings import condition_graph
from leavetaking.verdicts import word_with
from leavetaking.watches import event_of_move


class CustomVerdict:
    """A word on a watch, long evenings that keep and break it, and the table that the word needs."""

    def __init__(self, word, keeping, breaking, table):
        self.word = word
        self.keeping = keeping
        self.breaking = breaking
        self.table = table


def custom_verdict(custom, watch):
    """The verdict on the watch for the custom."""
    conditions, arrows = condition_graph(custom)
    ways = _ways_found(arrows, watch)
    ends = [(at, state) for at, state in ways if custom.may_end(conditions[at])]
    keeping = _first_way(ways, [pair for pair in ends if pair[1] in watch.good])
    breaking = _first_way(ways, [pair for pair in ends if pair[1] not in watch.good])
    word = word_with(keeping, breaking)
    table = () if word == "open" else tuple([(conditions[at], state) for at, state in ways])
    return CustomVerdict(word, keeping, breaking, table)


def is_custom_table(custom, watch, table):
    """Whether the table shows that every long evening keeps the watch."""
    pairs = {pair: True for pair in frozen(table)}
    if (custom_start(custom), 0) not in pairs:
        return False
    return all([_is_followed(custom, watch, condition, state, pairs) for condition, state in pairs])


def _ways_found(arrows, watch):
    """All pairs of the index of a condition and a state of the watch that come about, in the order in which they are
    found, each with the pair and the move by which it was found.
    """
    queue = [(0, 0)]
    found = {queue[0]: None}
    place = 0
    while place < len(queue):
        at, state = queue[place]
        for move, index in arrows[at]:
            after = (index, watch.state_after(state, event_of_move(move)))
            if after not in found:
                found[after] = ((at, state), move)
                queue.append(after)
        place += 1
    return found


def _first_way(ways, ends):
    """The moves that lead to the first one of these pairs, or None if there is none.

    Pairs to which fewer moves lead were found earlier, and of those with as many the ones to which the moves that
    come first in order lead.
    """
    if not ends:
        return None
    moves = []
    way = ways[ends[0]]
    while way is not None:
        pair, move = way
        moves.append(move)
        way = ways[pair]
    return tuple(moves[::-1])


def _is_followed(custom, watch, condition, state, pairs):
    """Whether the pair does not end badly, and a pair of these stands for each move from it."""
    if custom.may_end(condition) and state not in watch.good:
        return False
    return all([(after, watch.state_after(state, event_of_move(move))) in pairs
                for move, after in custom.moves_at(condition)])
