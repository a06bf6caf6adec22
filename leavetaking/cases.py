"""Cases: what is known of an evening if it is known who left in which cloak (point 26)."""

from leavetaking.books import own_book
from leavetaking.worncases import WornCase


class Case(WornCase):
    """A case never changes."""

    def __init__(self, house, book, wearing, facts):
        self.book = own_book(house, book)
        super().__init__(house, wearing, facts)

    @property
    def facts(self):
        """The plain facts, in order."""
        return self._facts

    def has_turn(self, came, guest):
        """Whether the guest is the next one to come."""
        # A slice, because behind the last guest of the book there is none to come.
        return self.book[len(came):len(came) + 1] == (guest,)
