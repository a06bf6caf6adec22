"""What tests of seasons need: sample seasons, and the document's definitions written out plainly."""

from random import Random

from leavetaking.evenings import wearing_of
from leavetaking.houses import House
from leavetaking.seasons import Season
from leavetaking.stories import Story

from tests.helpers import ADA, BOB, GUESTS, all_facts, fitting, plain_wearings, some_claim


def plain_story(season, night, brings):
    """The story of the night, read off point 97."""
    book, facts = season.nights[night]
    return Story(season.house.bringing(brings), book, facts)


def plain_rows(season, claims=()):
    """All rows of wearings of chains in which the claims, pairs of a night and a claim, are kept, in order."""
    rows = [()]
    for night in range(len(season.nights)):
        told = [claim for other, claim in claims if other == night]
        longer = []
        for row in rows:
            story = plain_story(season, night, row[-1] if row else season.house.brings)
            keeping = [set(plain_wearings(story, claim)) for claim in told]
            # Two claims of a night must be kept by one and the same evening.
            if len(told) > 1:
                every = told[0]
                for claim in told[1:]:
                    every = every & claim
                keeping = [set(plain_wearings(story, every))]
            longer += [row + (wearing,) for wearing in plain_wearings(story)
                       if all(wearing in found for found in keeping)]
        rows = longer
    return rows


def plain_chains(season):
    """All chains: all rows of evenings are tried."""
    chains = [()]
    for night in range(len(season.nights)):
        chains = [chain + (evening,) for chain in chains
                  for evening in fitting(plain_story(season, night, wearing_of(season.house, chain[-1]) if chain
                                                     else season.house.brings))]
    return chains


def season_house(draw):
    """A house of two or three guests."""
    guests = draw.choice(((ADA, BOB), (BOB, ADA), GUESTS, GUESTS))
    house = House(guests, brings=draw.sample(guests, len(guests)), pegs=draw.choice((None, None, 2)))
    for guest in guests:
        house = house.liking(guest, [draw.choice((0, 1, 2, 3)) for _ in guests]).choosing(guest, draw.choice((1, 2, 2)))
    return house


def some_seasons(count, most=3):
    """So many pairs of a season of up to so many nights and a claim, in a fixed disorder; some have no chain."""
    draw = Random(97)
    for _ in range(count):
        house = season_house(draw)
        facts = [fact for fact in all_facts(house) if len(fact) == 3 or len(fact[3]) <= 2]
        # Facts about leavings, which tell most about the wearings.
        shorts = [fact for fact in facts if fact[0] in ("wore", "settled") or (fact[0] == "before" and fact[1][0] == "out")]
        nights = [(draw.sample(house.guests, len(house)),
                   [draw.choice(draw.choice((facts, shorts))) for _ in range(draw.choice((0, 0, 1, 1)))])
                  for _ in range(draw.randint(1, most))]
        yield Season(house, nights), some_claim(draw, facts)
