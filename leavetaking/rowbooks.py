"""The books that a row follows (points 56 and 57)."""

from leavetaking.books import books_from
from leavetaking.evenings import book_of, is_evening
from leavetaking.rowbounds import own_row, row_conflict


def needs_of(house, row):
    """For each guest the index of the first pair of the row that needs it."""
    needed = [(guest, house.bringer(cloak)) for guest, cloak in own_row(house, row)]
    return tuple([min([index for index, pair in enumerate(needed) if guest in pair]) for guest in house.guests])


def late_evening(house, row):
    """The evening with this row in which each guest comes as late as possible; None if the row follows no book."""
    row = own_row(house, row)
    needs = needs_of(house, row)
    steps = []
    for index, (guest, cloak) in enumerate(row):
        steps.extend([("in", comer) for comer, need in zip(house.guests, needs) if need == index])
        steps.append(("out", guest, cloak))
    return tuple(steps) if is_evening(house, book_of(steps), steps) else None


def books_of(house, row):
    """All books that the row follows, ascending."""
    row = own_row(house, row)
    guests = house.guests
    for book in books_from(guests, ()):
        if row_conflict(house, book, row) is None:
            yield book


def latest_book(house, row):
    """The book of the late evening of the row, or None."""
    evening = late_evening(house, row)
    return None if evening is None else book_of(evening)
