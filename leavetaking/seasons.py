"""Seasons: what is known of evenings night after night (point 97)."""

from leavetaking.books import is_book
from leavetaking.common import frozen
from leavetaking.errors import BadBook
from leavetaking.facts import own_facts
from leavetaking.stories import Story


class Season:
    """A season never changes."""

    def __init__(self, house, nights):
        self.house = house
        self.nights = _own_nights(house, frozen(nights))

    def __len__(self):
        return len(self.nights)

    def __iter__(self):
        return iter(self.nights)


def night_story(season, night, brings):
    """The story of the night if the guests come in these cloaks."""
    book, facts = season.nights[night]
    return Story(season.house.bringing(brings), book, facts)


def _own_nights(house, nights):
    """The nights, after their books and then their facts were looked at."""
    for book, _ in nights:
        if not is_book(house, book):
            raise BadBook()
    for _, facts in nights:
        own_facts(house, facts)
    return nights
