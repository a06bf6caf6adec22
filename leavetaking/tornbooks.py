"""The possible books of a torn story (point 73)."""

from leavetaking.books import books_from
from leavetaking.cases import Case
from leavetaking.errors import NoEvening
from leavetaking.hurrying import hurry
from leavetaking.openverdicts import open_cases
from leavetaking.situations import open_evening


def possible_books(torn, claim=None):
    """All books of evenings that fit the torn story, and keep the claim if one is given, ascending."""
    guests = torn.house.guests
    # Cases that no evening of any book fits are left out once, not again for each book.
    cases = [case for case in open_cases(torn, claim) if open_evening(case) is not None]
    for book in books_from(guests, ()):
        if _is_possible(cases, book):
            yield book


def sure_comings(torn):
    """All pairs of guests of which the first one comes earlier in every evening that fits."""
    books = list(possible_books(torn))
    if not books:
        raise NoEvening()
    guests = torn.house.guests
    return tuple([(guest, other) for guest in guests for other in guests
                  if all([book.index(guest) < book.index(other) for book in books])])


def _is_possible(cases, book):
    """Whether some evening of the book fits one of the open cases."""
    for case in cases:
        if hurry(Case(case.house, book, case.wearing, case.facts)).whole:
            return True
    return False
