"""In which row two books differ, and the story of a row (point 58)."""

from leavetaking.books import own_book
from leavetaking.rowbounds import own_row
from leavetaking.rows import free_pairs, further_pairs, remixed, rows_behind
from leavetaking.stories import Story


def first_difference(house, one, two):
    """The first row that follows just one of the books, with 0 for the one and 1 for the other book; or None."""
    books = (own_book(house, one), own_book(house, two))
    return _difference(house, books, (), (0, 0), {})


def row_story(house, book, row):
    """The story that an evening fits if and only if it has the row."""
    book = own_book(house, book)
    row = own_row(house, row)
    worn = [("wore", guest, cloak) for guest, cloak in row]
    leavings = [("out", guest) for guest, _ in row]
    return Story(house, book, worn + [("before", one, two) for one, two in zip(leavings, leavings[1:])])


def _difference(house, books, beginning, comes, alike):
    """What `first_difference` tells of the rows with this beginning of rows that follow both books.

    `comes` has for both books the least number of guests come at its last pair; `alike` is added what is known to
    go on alike.
    """
    state = (remixed(beginning), comes)
    if state in alike:
        return None
    ones, twos = [{pair: number for pair, number in further_pairs(house, book, beginning, come)}
                  for book, come in zip(books, comes)]
    for pair in free_pairs(house, beginning):
        longer = beginning + (pair,)
        if pair in ones and pair in twos:
            found = _difference(house, books, longer, (ones[pair], twos[pair]), alike)
            if found is not None:
                return found
        elif pair in ones:
            return (_first_row(house, books[0], longer, ones[pair]), 0)
        elif pair in twos:
            return (_first_row(house, books[1], longer, twos[pair]), 1)
    alike[state] = True
    return None


def _first_row(house, book, beginning, come):
    """The first row with this beginning of a row that follows the book."""
    for row in rows_behind(house, book, beginning, come):
        return row
    return None
