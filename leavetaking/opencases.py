"""Cases without a book (point 68)."""

from leavetaking.bars import bars_at, lot_of
from leavetaking.common import frozen
from leavetaking.worncases import WornCase


class OpenCase(WornCase):
    """A case without a book never changes."""

    def __init__(self, house, wearing, facts):
        super().__init__(house, wearing, facts)

    @property
    def facts(self):
        """The plain facts, in order."""
        return self._facts

    def has_turn(self, came, guest):
        """Whether the guest can be the next one to come: whoever has not come can."""
        return guest not in came


def open_bars(case, come, gone, event):
    """All bars of the event in the situation, in order."""
    came = lot_of(come)
    left = lot_of(gone)
    event = frozen(event)
    return tuple(bars_at(case, came, left, event))
