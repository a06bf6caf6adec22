"""Whether two customs have the same words of leavings (point 95)."""

from leavetaking.common import frozen
from leavetaking.errors import HousesDiffer
from leavetaking.longevenings import live_graph


class Likeness:
    """Whether the words are the same, with a table that shows it or the least word that one custom alone has."""

    def __init__(self, same, table, word, holder):
        self.same = same
        self.table = table
        self.word = word
        self.holder = holder


class LotGraph:
    """The live conditions of a custom, as indexes, with its comings and its leavings."""

    def __init__(self, custom):
        conditions, arrows = live_graph(custom)
        # By index in dicts: a table that is judged may have indexes of no condition.
        self._ends = {at: custom.may_end(condition) for at, condition in enumerate(conditions)}
        self._comings = {at: [after for move, after in row if move[0] == "in"] for at, row in enumerate(arrows)}
        self._leavings = {at: [(move[1:], after) for move, after in row if move[0] == "out"]
                          for at, row in enumerate(arrows)}

    def first(self):
        """The lot of the empty row."""
        return self._with_comings([0] if self._ends else [])

    def lots_after(self, lot):
        """For each pair with which the lot can be left, the lot after this lot and the pair."""
        leavings = [leaving for at in self._with_comings(lot) for leaving in self._leavings.get(at, ())]
        found = {}
        for pair, after in leavings:
            found.setdefault(pair, []).append(after)
        return {pair: self._with_comings(afters) for pair, afters in found.items()}

    def may_end(self, lot):
        """Whether the lot contains a condition that ends."""
        return any([self._ends.get(at, False) for at in lot])

    def _with_comings(self, lot):
        """The lot with all conditions to which comings lead from it, ascending."""
        found = {at: True for at in lot}
        queue = list(found)
        place = 0
        while place < len(queue):
            here = queue[place]
            for after in self._comings.get(here, ()):
                if after not in found:
                    found[after] = True
                    queue.append(after)
            place += 1
        return tuple(sorted(queue))


def compare_customs(one, two):
    """Whether the two customs have the same words."""
    _check_comparable(one, two)
    graphs = (LotGraph(one), LotGraph(two))
    first = tuple([graph.first() for graph in graphs])
    found = {first: ()}
    queue = [first]
    at = 0
    while at < len(queue):
        lots = queue[at]
        ends = [graph.may_end(lot) for graph, lot in zip(graphs, lots)]
        if ends[0] != ends[1]:
            return Likeness(False, (), found[lots], ends.index(True))
        for pair, after in _afters(one.house, graphs, lots):
            if after not in found:
                found[after] = found[lots] + (pair,)
                queue.append(after)
        at += 1
    return Likeness(True, tuple([lots for lots in queue if any(lots)]), None, None)


def is_likeness_table(one, two, table):
    """Whether the table shows that the two customs have the same words."""
    _check_comparable(one, two)
    graphs = (LotGraph(one), LotGraph(two))
    told = {lots: True for lots in frozen(table)}
    first = tuple([graph.first() for graph in graphs])
    return _is_told(first, told) and all([_is_followed(one.house, graphs, lots, told) for lots in told])


def _check_comparable(one, two):
    """HousesDiffer if the houses do not have the same guests in the same order."""
    if one.house.guests != two.house.guests:
        raise HousesDiffer()


def _afters(house, graphs, lots):
    """All pairs of a kind that leaves and a kind of cloak, in order, each with the two lots after these lots and it."""
    tables = [graph.lots_after(lot) for graph, lot in zip(graphs, lots)]
    return [((kind, cloak), tuple([table.get((kind, cloak), ()) for table in tables]))
            for kind in house.guests for cloak in house.guests]


def _is_told(lots, told):
    """Whether both lots are empty, or stand in the table."""
    return not any(lots) or lots in told


def _is_followed(house, graphs, lots, told):
    """Whether both lots may end or neither, and a pair of lots of the table stands for each further leaving."""
    ends = [graph.may_end(lot) for graph, lot in zip(graphs, lots)]
    if ends[0] != ends[1]:
        return False
    return all([_is_told(after, told) for _, after in _afters(house, graphs, lots)])
