"""Who can have left in which cloak (points 41, 42 and 44)."""

from leavetaking.casework import claimed_lots, evening_worn, told_wearings
from leavetaking.common import different
from leavetaking.errors import NoEvening
from leavetaking.houses import check_guests
from leavetaking.wearings import possible_wearings


def possible_cloaks(story, guest):
    """All cloaks in which the guest left in some evening that fits, in house order."""
    house = story.house
    check_guests(house, [guest])
    place = house.guests.index(guest)
    worn = {wearing[place]: True for wearing in possible_wearings(story)}
    return tuple([cloak for cloak in house.guests if cloak in worn])


def possible_guests(story, cloak):
    """All guests that left in the cloak in some evening that fits, in house order."""
    house = story.house
    check_guests(house, [cloak])
    places = {wearing.index(cloak): True for wearing in possible_wearings(story)}
    return tuple([guest for place, guest in enumerate(house.guests) if place in places])


def evening_with(story, guest, cloak):
    """The evening of the first possible wearing in which the guest left in the cloak, or None."""
    house = story.house
    check_guests(house, [guest, cloak])
    place = house.guests.index(guest)
    lots = claimed_lots(story, None)
    for wearing in told_wearings(story):
        if wearing[place] == cloak:
            evening = evening_worn(story, lots, wearing)
            if evening is not None:
                return evening
    return None


def sure_wearers(story):
    """For each guest the cloak in which it left in every evening that fits, or None."""
    wearings = _some_wearings(story)
    worn = [different([wearing[place] for wearing in wearings]) for place in range(len(story.house))]
    return tuple([cloaks[0] if len(cloaks) == 1 else None for cloaks in worn])


def best_cloak(story, guest):
    """The possible cloak of the guest that has the greatest number in its taste."""
    worth = _worth_of_possible(story, guest)
    return max(list(worth), key=lambda cloak: worth[cloak])


def worst_cloak(story, guest):
    """The possible cloak of the guest that has the least number in its taste."""
    worth = _worth_of_possible(story, guest)
    return min(list(worth), key=lambda cloak: worth[cloak])


def own_range(story):
    """The least and the greatest number of guests that left in their own cloaks."""
    guests = story.house.guests
    numbers = [len([cloak for guest, cloak in zip(guests, wearing) if guest == cloak])
               for wearing in _some_wearings(story)]
    return (min(numbers), max(numbers))


def _some_wearings(story):
    """All possible wearings; NoEvening if there is none."""
    wearings = list(possible_wearings(story))
    if not wearings:
        raise NoEvening()
    return wearings


def _worth_of_possible(story, guest):
    """The possible cloaks of the guest, in house order, with their numbers in its taste; NoEvening without one."""
    cloaks = possible_cloaks(story, guest)
    if not cloaks:
        raise NoEvening()
    house = story.house
    return {cloak: number for cloak, number in zip(house.guests, house.taste(guest)) if cloak in cloaks}
