"""What several files of the package need and no point of the document names."""


def frozen(value):
    """The value with tuples in the place of lists, at every level."""
    if isinstance(value, (list, tuple)):
        return tuple([frozen(item) for item in value])
    return value


def is_whole(value):
    """Whether the value is a whole number (point 2)."""
    return isinstance(value, int) and not isinstance(value, bool)


def picks(many, count):
    """All choices of `count` of the indexes below `many`, in the order of choices (point 18)."""
    found = [()]
    for place in range(count):
        # An index beyond this one would leave too few indexes for the places that follow.
        last = many - count + place
        found = [pick + (at,) for pick in found for at in range(pick[-1] + 1 if pick else 0, last + 1)]
    return found


def different(row):
    """The different items of the row, in the order in which they stand in it first."""
    return tuple({item: True for item in row})
