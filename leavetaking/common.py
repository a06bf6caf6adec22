"""What several files of the package need and no point of the document names."""


def frozen(value):
    """The value with tuples in the place of lists, at every level."""
    if isinstance(value, (list, tuple)):
        return tuple([frozen(item) for item in value])
    return value


def is_whole(value):
    """Whether the value is a whole number (point 2)."""
    return isinstance(value, int) and not isinstance(value, bool)


def picks(many, count):
    """All choices of `count` of the indexes below `many`, in the order of choices (point 18)."""
    found = [()]
    for place in range(count):
        # An index beyond this one would leave too few indexes for the places that follow.
        last = many - count + place
        found = [pick + (at,) for pick in found for at in range(pick[-1] + 1 if pick else 0, last + 1)]
    return found


def different(row):
    """The different items of the row, in the order in which they stand in it first."""
    return tuple({item: True for item in row})


def index_lots(many):
    """All lots of the indexes below `many`, in the order of lots (point 47)."""
    return [lot for count in range(many + 1) for lot in picks(many, count)]


def least_lots(many, is_one):
    """All lots of indexes for which `is_one` holds, and for no smaller lot in them, in order.

    If it holds for a lot, it must also hold for every greater one that contains this lot.
    """
    found = []
    for lot in index_lots(many):
        if not any([_is_within(less, lot) for less in found]) and is_one(lot):
            found.append(lot)
    return tuple(found)


def _is_within(less, lot):
    """Whether the lot has all indexes of the other one."""
    return all([index in lot for index in less])
