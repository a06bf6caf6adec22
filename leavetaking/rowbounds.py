"""Rows of leavings, and with how many guests come their pairs can leave (points 51 to 53)."""

from leavetaking.books import own_book
from leavetaking.common import frozen
from leavetaking.errors import BadRow


def is_row(house, value):
    """Whether the sequence of pairs of strings is a row of the house."""
    due = sorted(house.guests)
    return sorted([guest for guest, _ in value]) == due and sorted([cloak for _, cloak in value]) == due


def own_row(house, row):
    """The row as a tuple; BadRow if it is not one of the house."""
    if not is_row(house, row):
        raise BadRow()
    return frozen(row)


def row_bounds(house, book, row):
    """For each pair of the row the least and the greatest number of guests come with which it can leave."""
    book = own_book(house, book)
    row = own_row(house, row)
    return tuple([(least_at(house, book, pair), most_at(house, book, row[:index], pair))
                  for index, pair in enumerate(row)])


def row_conflict(house, book, row):
    """The first two pairs of the row, or the same one twice, that show that it does not follow the book, or None."""
    return conflict_in(row_bounds(house, book, row))


# The following three are for books and rows that are known to be of the house, and for tuples.


def least_at(house, book, pair):
    """With how many guests come both the guest and the bringer of the cloak have just come."""
    guest, cloak = pair
    return max(book.index(guest), book.index(house.bringer(cloak))) + 1


def most_at(house, book, ahead, pair):
    """With how many guests come at most the pair can leave if just the guests of the pairs ahead have left."""
    guest, cloak = pair
    taken = [other for _, other in ahead]
    rivals = [other for other in house.better(guest, cloak) if other not in taken]
    comings = [place for place, comer in enumerate(book) if house.brought(comer) in rivals]
    most = len(book)
    if len(comings) >= house.depth(guest):
        # As long as this rival has not come, few enough of them hang.
        most = comings[house.depth(guest) - 1]
    if house.pegs is not None:
        most = min(most, len(ahead) + house.pegs)
    return most


def conflict_in(bounds):
    """What `row_conflict` tells of a row with these bounds."""
    for later, (_, most) in enumerate(bounds):
        for earlier, (least, _) in enumerate(bounds[:later + 1]):
            if least > most:
                return (earlier, later)
    return None
