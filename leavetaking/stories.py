"""Stories: what is known of an evening (points 19 and 20)."""

from leavetaking.books import own_book
from leavetaking.common import frozen
from leavetaking.errors import BadNumber, StoriesDiffer
from leavetaking.facts import own_facts


class Story:
    """A story never changes: what would change it gives a new one."""

    def __init__(self, house, book, facts=()):
        self.house = house
        self.book = own_book(house, book)
        self._facts = own_facts(house, facts)

    @property
    def facts(self):
        """The facts that are told, in order."""
        return self._facts

    def told(self, fact):
        """The story with one more fact at the end."""
        return Story(self.house, self.book, self._facts + (fact,))

    def untold(self, index):
        """The story without the fact at this index."""
        if not 0 <= index < len(self._facts):
            raise BadNumber(index)
        return Story(self.house, self.book, self._facts[:index] + self._facts[index + 1:])

    @property
    def wearers(self):
        """For each guest the cloak in which the first fact `wore` about it says that it left, or None."""
        return wearers_in(self.house, self._facts)

    def __add__(self, other):
        check_comparable(self, other)
        return Story(self.house, self.book, self._facts + other.facts)

    def __len__(self):
        return len(self._facts)

    def __iter__(self):
        return iter(self._facts)

    def __contains__(self, fact):
        return frozen(fact) in self._facts

    def __eq__(self, other):
        return (isinstance(other, Story) and self.house == other.house and self.book == other.book
                and self._facts == other.facts)


def check_comparable(one, two):
    """StoriesDiffer if the houses or the books of the two stories differ."""
    if one.house != two.house or one.book != two.book:
        raise StoriesDiffer()


def wearers_in(house, facts):
    """What `wearers` tells of a story of the house with these facts."""
    cloaks = {}
    for fact in facts:
        if fact[0] == "wore" and fact[1] not in cloaks:
            cloaks[fact[1]] = fact[2]
    return tuple([cloaks.get(guest) for guest in house.guests])
