"""The possible books of a torn story (point 73)."""

from leavetaking.books import books_from
from leavetaking.casework import first_evening
from leavetaking.errors import NoEvening
from leavetaking.torn import book_story


def possible_books(torn, claim=None):
    """All books of evenings that fit the torn story, and keep the claim if one is given, ascending."""
    guests = torn.house.guests
    for book in books_from(guests, ()):
        if first_evening(book_story(torn, book), claim) is not None:
            yield book


def sure_comings(torn):
    """All pairs of guests of which the first one comes earlier in every evening that fits."""
    books = list(possible_books(torn))
    if not books:
        raise NoEvening()
    guests = torn.house.guests
    return tuple([(guest, other) for guest in guests for other in guests
                  if all([book.index(guest) < book.index(other) for book in books])])
