"""First chains, verdicts over all chains of a season, and tables of wearings (points 100 and 101)."""

from leavetaking.chains import kept_nights, worn_nights
from leavetaking.claims import Claim, check_claim
from leavetaking.common import frozen
from leavetaking.errors import NoEvening
from leavetaking.seasons import night_story
from leavetaking.verdicts import word_with
from leavetaking.wearings import evening_of_wearing, possible_wearings


class SeasonVerdict:
    """A word on a claim about one night, a chain in which it is kept and one in which it is broken."""

    def __init__(self, word, keeping, breaking):
        self.word = word
        self.keeping = keeping
        self.breaking = breaking


def first_chain(season, claims=()):
    """The chain with the first row of wearings of those in which each claim is kept on its night, or None."""
    told = _claim_of_night(season, claims)
    nights = worn_nights(season, told)
    row = _first_row(nights, 0, season.house.brings)
    if row is None:
        return None
    comings = (season.house.brings,) + row[:-1]
    return tuple([evening_of_wearing(night_story(season, night, brings), wearing, told.get(night))
                  for night, (brings, wearing) in enumerate(zip(comings, row))])


def season_verdict(season, night, claim):
    """The verdict on the claim about the evening of this night."""
    keeping = first_chain(season, [(night, claim)])
    breaking = first_chain(season, [(night, ~claim)])
    return SeasonVerdict(word_with(keeping, breaking), keeping, breaking)


def sure_after(season, night):
    """For each guest the cloak in which it left on this night in every chain, or None."""
    wearings = kept_nights(season)[night]
    if not wearings:
        raise NoEvening()
    return tuple([cloak if all([wearing[place] == cloak for wearing in wearings]) else None
                  for place, cloak in enumerate(wearings[0])])


def is_season_table(season, table):
    """Whether no wearing outside of the table comes about."""
    comings = [season.house.brings]
    for night, wearings in enumerate(frozen(table)):
        for brings in comings:
            story = night_story(season, night, brings)
            if not all([wearing in wearings for wearing in possible_wearings(story)]):
                return False
        comings = wearings
    return True


def _claim_of_night(season, claims):
    """For each night that has claims all of them in one; BadFact as they are looked at one after the other."""
    told = {}
    for night, claim in claims:
        check_claim(season.house, claim)
        told.setdefault(night, []).append(claim)
    return {night: Claim.every(found) for night, found in told.items()}


def _first_row(nights, night, brings):
    """The first row of wearings from this night on if the guests come in these cloaks, or None."""
    if night == len(nights):
        return ()
    for wearing in nights[night][brings]:
        row = _first_row(nights, night + 1, wearing)
        if row is not None:
            return (wearing,) + row
    return None
