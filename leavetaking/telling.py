"""Guests that tell the wearing (point 43)."""

from leavetaking.common import different, frozen, picks
from leavetaking.houses import check_guests
from leavetaking.wearings import possible_wearings


def do_tell(story, guests):
    """Whether no two possible wearings agree on all of these guests."""
    guests = frozen(guests)
    check_guests(story.house, guests)
    places = [story.house.guests.index(guest) for guest in guests]
    return _is_telling(list(possible_wearings(story)), places)


def telling_guests(story):
    """The smallest lot of guests that tells the wearing, in house order."""
    wearings = list(possible_wearings(story))
    # A guest that has one cloak in all of them tells nothing, so no smallest lot has it.
    places = [place for place in range(len(story.house))
              if len(different([wearing[place] for wearing in wearings])) > 1]
    count = 0
    while True:
        for pick in picks(len(places), count):
            lot = [places[at] for at in pick]
            if _is_telling(wearings, lot):
                return tuple([story.house.guests[place] for place in lot])
        count += 1


def _is_telling(wearings, places):
    """Whether no two of the wearings have the same cloaks at these places."""
    told = different([tuple([wearing[place] for place in places]) for wearing in wearings])
    return len(told) == len(wearings)
