"""Chains of evenings, one for each night of a season, and what the guests can wear after each night (points 98, 99)."""

from leavetaking.common import frozen
from leavetaking.evenings import wearing_of
from leavetaking.fitting import fits
from leavetaking.seasons import night_story
from leavetaking.wearings import possible_wearings
from leavetaking.worncases import own_wearing


def is_chain(season, evenings):
    """Whether the evenings are a chain of the season."""
    brings = season.house.brings
    for night, evening in enumerate(frozen(evenings)):
        if not fits(night_story(season, night, brings), evening):
            return False
        brings = wearing_of(season.house, evening)
    return True


def forward(season):
    """For each night all wearings that the guests can have after it if only the nights up to it are looked at."""
    return tuple([_ascending(season.house, _ends(worn)) for worn in worn_nights(season, {})])


def kept_nights(season):
    """For each night the wearings that the evening of this night has in some chain."""
    nights = worn_nights(season, {})
    return _kept(season.house, nights, _ends(nights[-1]))


def backward(season, wearing):
    """For each night the wearings that its evening has in some chain whose last evening has this wearing."""
    wearing = own_wearing(season.house, wearing)
    return _kept(season.house, worn_nights(season, {}), {wearing: True})


def worn_nights(season, claims):
    """For each night: for each wearing in which the guests can come, all wearings in which they can leave, ascending.

    `claims` has the claim that the evening of a night must keep, for those nights that have one.
    """
    nights = []
    comings = [season.house.brings]
    for night in range(len(season)):
        worn = {}
        for brings in comings:
            story = night_story(season, night, brings)
            claim = claims.get(night)
            worn[brings] = tuple(possible_wearings(story, claim))
        nights.append(worn)
        comings = list(_ends(worn))
    return nights


def _ends(worn):
    """The wearings in which the guests can leave, if `worn` has for each one in which they can come those."""
    return {wearing: True for wearings in worn.values() for wearing in wearings}


def _ascending(house, lot):
    """The wearings of the lot in ascending order."""
    return tuple(sorted(list(lot), key=lambda wearing: [house.guests.index(cloak) for cloak in wearing]))


def _kept(house, nights, lasts):
    """For each night the wearings of its evening in the chains whose last evening has one of these wearings."""
    found = []
    kept = lasts
    for worn in nights[::-1]:
        here = {wearing: True for wearing in _ends(worn) if wearing in kept}
        found.append(_ascending(house, here))
        kept = {brings: True for brings, wearings in worn.items() if any([wearing in here for wearing in wearings])}
    return tuple(found[::-1])
