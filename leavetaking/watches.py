"""Watches, which look at the events of a long evening (point 91)."""

from leavetaking.common import frozen
from leavetaking.errors import BadRule


class Watch:
    """A watch never changes: what it saw of an evening is not kept in it."""

    def __init__(self, rules, good):
        self.rules = frozen(rules)
        _check_rules(self.rules)
        self.good = tuple(sorted(set(frozen(good))))
        self._afters = {(state, event): after for state, event, after in self.rules}

    @staticmethod
    def never(event):
        """The watch that is kept if the event never happens."""
        return Watch(((0, event, 1),), (0,))

    @staticmethod
    def follows(event, other):
        """The watch that is kept if after each happening of the event the other one happens later."""
        return Watch(((0, event, 1), (1, other, 0)), (0,))

    def state_after(self, state, event):
        """The state behind the event."""
        return self._afters.get((state, frozen(event)), state)

    def __call__(self, moves):
        state = 0
        for move in frozen(moves):
            state = self.state_after(state, event_of_move(move))
        return state in self.good

    def __invert__(self):
        return Watch(self.rules, [state for state in range(10) if state not in self.good])


def event_of_move(move):
    """The event that happens with the move: for a coming it does not matter which state follows."""
    return move[:2] if move[0] == "in" else move


def _check_rules(rules):
    """BadRule for the first rule whose state and event are those of a rule ahead of it."""
    ahead = {}
    for index, (state, event, _) in enumerate(rules):
        if (state, event) in ahead:
            raise BadRule(index)
        ahead[state, event] = True
