"""Stories: what is known of an evening (points 19 and 20)."""

from leavetaking.books import own_book
from leavetaking.common import frozen
from leavetaking.errors import BadNumber, StoriesDiffer
from leavetaking.facts import own_facts


class Story:
    """A story never changes: what would change it gives a new one."""

    def __init__(self, house, book, facts=()):
        self.house = house
        self.book = own_book(house, book)
        self.facts = own_facts(house, facts)

    def told(self, fact):
        """The story with one more fact at the end."""
        return Story(self.house, self.book, self.facts + (fact,))

    def untold(self, index):
        """The story without the fact at this index."""
        if not 0 <= index < len(self.facts):
            raise BadNumber(index)
        return Story(self.house, self.book, self.facts[:index] + self.facts[index + 1:])

    @property
    def wearers(self):
        """For each guest the cloak in which the first fact `wore` about it says that it left, or None."""
        cloaks = {}
        for fact in self.facts:
            if fact[0] == "wore" and fact[1] not in cloaks:
                cloaks[fact[1]] = fact[2]
        return tuple([cloaks.get(guest) for guest in self.house.guests])

    def __add__(self, other):
        if self.house != other.house or self.book != other.book:
            raise StoriesDiffer()
        return Story(self.house, self.book, self.facts + other.facts)

    def __len__(self):
        return len(self.facts)

    def __iter__(self):
        return iter(self.facts)

    def __contains__(self, fact):
        return frozen(fact) in self.facts

    def __eq__(self, other):
        return (isinstance(other, Story) and self.house == other.house and self.book == other.book
                and self.facts == other.facts)
