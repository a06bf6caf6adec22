"""Torn stories: what is known of an evening whose book is lost (points 67 and 73)."""

from leavetaking.books import is_book
from leavetaking.common import frozen
from leavetaking.evenings import book_of
from leavetaking.facts import own_facts
from leavetaking.fitting import fits
from leavetaking.stories import Story, wearers_in


class Torn:
    """A torn story never changes: what would change it gives a new one."""

    def __init__(self, house, facts=()):
        self.house = house
        self._facts = own_facts(house, facts)

    @property
    def facts(self):
        """The facts that are told, in order."""
        return self._facts

    @property
    def wearers(self):
        """For each guest the cloak in which the first fact `wore` about it says that it left, or None."""
        return wearers_in(self.house, self._facts)

    def told(self, fact):
        """The torn story with one more fact at the end."""
        return Torn(self.house, self._facts + (fact,))


def torn_fits(torn, steps):
    """Whether the steps are an evening, of whatever book, that fits the torn story."""
    steps = frozen(steps)
    book = book_of(steps)
    return is_book(torn.house, book) and fits(book_story(torn, book), steps)


def torn_of(story):
    """The torn story that the same evenings fit: the book becomes facts about the comings."""
    comings = [("in", guest) for guest in story.book]
    return Torn(story.house, [("before", one, two) for one, two in zip(comings, comings[1:])] + list(story.facts))


def book_story(torn, book):
    """The story with the house and all facts of the torn story and with this book."""
    return Story(torn.house, book, torn.facts)
