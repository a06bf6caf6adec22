"""Books, the orders in which guests come, and events (point 9)."""

from leavetaking.common import frozen
from leavetaking.errors import BadBook


def is_book(house, value):
    """Whether the sequence of strings is a book of the house."""
    return sorted(value) == sorted(house.guests)


def own_book(house, book):
    """The book as a tuple; BadBook if it is not one of the house."""
    if not is_book(house, book):
        raise BadBook()
    return frozen(book)


def events_of(house):
    """All events of the house, in the order of events."""
    return tuple([(word, guest) for word in ("in", "out") for guest in house.guests])


def books_from(guests, begun):
    """All books that begin with the guests that have begun and go on with these guests, ascending."""
    if not guests:
        yield begun
    for guest in guests:
        rest = [other for other in guests if other != guest]
        longer = begun + (guest,)
        yield from books_from(rest, longer)
