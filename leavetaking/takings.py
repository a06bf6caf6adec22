"""What was taken in an evening while what hung (point 59)."""

from leavetaking.common import frozen


def takings(house, steps):
    """The takings of the leavings of the evening, in order."""
    hung = {}
    found = []
    for step in frozen(steps):
        if step[0] == "in":
            hung[house.brought(step[1])] = True
        else:
            _, guest, cloak = step
            found.append((guest, cloak, tuple([other for other in house.guests if other in hung])))
            del hung[cloak]
    return tuple(found)
