"""The evenings that have a row (point 54)."""

from leavetaking.common import frozen
from leavetaking.rowbounds import conflict_in, row_bounds


def row_evenings(house, book, row):
    """All evenings with this row, in the order of evenings."""
    book = frozen(book)
    row = frozen(row)
    bounds = row_bounds(house, book, row)
    if conflict_in(bounds) is None:
        for numbers in _numberings(bounds, ()):
            yield _evening_with(book, row, numbers)


def row_evening_count(house, book, row):
    """The number of evenings with this row."""
    # For each number of guests come the ways to give numbers to the pairs so far, of which it is the last one.
    ways = [1] + [0] * len(row)
    for least, most in row_bounds(house, book, row):
        ways = [sum(ways[:come + 1]) if least <= come <= most else 0 for come in range(len(ways))]
    return sum(ways)


def quick_evening(house, book, row):
    """The evening with this row in which each leaving is as early as possible, or None."""
    bounds = row_bounds(house, book, row)
    if conflict_in(bounds) is not None:
        return None
    leasts = [least for least, _ in bounds]
    return _evening_with(book, row, [max(leasts[:index + 1]) for index in range(len(leasts))])


def _numberings(bounds, numbers):
    """All ways to give numbers of guests come to the pairs with these bounds that begin with these numbers.

    Greater numbers come first, because a coming comes ahead of a leaving in the order of steps. The bounds have no
    conflict.
    """
    at = len(numbers)
    if at == len(bounds):
        yield numbers
        return
    least = max(bounds[at][0], numbers[-1] if numbers else 0)
    # Beyond the bounds of a later pair there would be no way to go on.
    most = min([later for _, later in bounds[at:]])
    for number in range(most, least - 1, -1):
        longer = numbers + (number,)
        yield from _numberings(bounds, longer)


def _evening_with(book, row, numbers):
    """The evening with the book and the row in which the pairs leave with so many guests come."""
    steps = []
    come = 0
    for (guest, cloak), number in zip(row, numbers):
        steps.extend([("in", comer) for comer in book[come:number]])
        steps.append(("out", guest, cloak))
        come = number
    return tuple(steps)
