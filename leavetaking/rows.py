"""All rows that follow a book (point 55)."""

from leavetaking.books import own_book
from leavetaking.common import frozen
from leavetaking.rowbounds import least_at, most_at


def rows(house, book):
    """All rows that follow the book, in order."""
    book = own_book(house, book)
    yield from rows_behind(house, book, (), 0)


def row_count(house, book):
    """The number of rows that follow the book."""
    book = own_book(house, book)
    # Beginnings that are mixed alike go on in the same ways: they are counted together.
    layer = {((), 0): 1}
    for _ in range(len(book)):
        further = {}
        for (beginning, come), many in layer.items():
            for pair, number in further_pairs(house, book, beginning, come):
                state = (remixed(beginning + (pair,)), number)
                further[state] = further.get(state, 0) + many
        layer = further
    return sum(list(layer.values()))


def next_pairs(house, book, beginning):
    """All pairs that can come next in a row that follows the book, or None if no such row has the beginning."""
    book = own_book(house, book)
    beginning = frozen(beginning)
    come = 0
    for index, pair in enumerate(beginning):
        ahead = beginning[:index]
        come = come_with(house, book, ahead, come, pair) if pair in free_pairs(house, ahead) else None
        if come is None:
            return None
    return tuple([pair for pair, _ in further_pairs(house, book, beginning, come)])


# The following are for books that are known to be books of the house, and for beginnings of rows that follow them,
# as tuples. To a beginning belongs the least number of guests come at its last pair.


def rows_behind(house, book, beginning, come):
    """All rows that follow the book and have the beginning, in order."""
    if len(beginning) == len(book):
        yield beginning
    for pair, number in further_pairs(house, book, beginning, come):
        longer = beginning + (pair,)
        yield from rows_behind(house, book, longer, number)


def further_pairs(house, book, beginning, come):
    """All pairs that can come next, in order, each with the least number of guests come at it."""
    found = []
    for guest, cloak in free_pairs(house, beginning):
        number = come_with(house, book, beginning, come, (guest, cloak))
        if number is not None:
            found.append(((guest, cloak), number))
    return found


def free_pairs(house, beginning):
    """All pairs of a guest that does not stand in the beginning and of a cloak that does not, in order."""
    gone = [guest for guest, _ in beginning]
    taken = [cloak for _, cloak in beginning]
    cloaks = [cloak for cloak in house.guests if cloak not in taken]
    return [(guest, cloak) for guest in house.guests if guest not in gone for cloak in cloaks]


def come_with(house, book, beginning, come, pair):
    """The least number of guests come with which the pair can leave behind the beginning, or None if it cannot."""
    number = max(come, least_at(house, book, pair))
    return number if number <= most_at(house, book, beginning, pair) else None


def remixed(beginning):
    """The guests and the cloaks of the beginning in other pairs: the same ones, in whatever pairs they stand in it.

    What can come next does not depend on who of those who left took which of the cloaks that are taken.
    """
    return tuple(zip(sorted([guest for guest, _ in beginning]), sorted([cloak for _, cloak in beginning])))
