"""Point 77: chances of evenings, of stories and of claims."""

from fractions import Fraction
from math import gcd

from leavetaking.chances import chance_of, odds, story_chance
from leavetaking.claims import Claim
from leavetaking.errors import BadBook, BadFact
from leavetaking.evenings import evenings
from leavetaking.houses import House
from leavetaking.stories import Story

from tests.helpers import ADA, BOB, CLEO, GUESTS, PromiseCase, crowd, fitting, listed, sample_houses, within
from tests.helpers_odds import all_chances, odds_stories, pair, plain_chance

TWO = House([ADA, BOB])
STORY = Story(TWO, (ADA, BOB))
NEVER = STORY.told(("wore", ADA, ADA)).told(("wore", BOB, ADA))
OWN = Claim.of(("wore", ADA, ADA))
STRANGE = (("wore", "zoe", ADA), ("chose", ADA, True), ("hung", ("in", ADA), 1, (ADA, ADA)))


def plain_sum(story, claim=None):
    """The chance of all evenings that fit, told one by one."""
    return sum([plain_chance(story.house, story.book, evening) for evening in fitting(story, claim)], Fraction(0))


class Chances(PromiseCase):
    def test_two_guests(self):
        early = (("in", ADA), ("out", ADA, ADA), ("in", BOB), ("out", BOB, BOB))
        late = (("in", ADA), ("in", BOB), ("out", BOB, ADA), ("out", ADA, BOB))
        self.same(chance_of(TWO, [ADA, BOB], early), (1, 2))
        self.same(chance_of(TWO, (ADA, BOB), listed(late)), (1, 4))
        self.same(chance_of(House([ADA]), [ADA], early[:2]), (1, 1))
        self.same(chance_of(House(GUESTS, pegs=1), GUESTS, next(evenings(House(GUESTS, pegs=1), GUESTS))), (1, 1))

    def test_all_evenings_of_a_house_add_up_to_one(self):
        for house, book in sample_houses():
            chances = [chance_of(house, book, evening) for evening in evenings(house, book)]
            self.assertEqual(sum([Fraction(*chance) for chance in chances]), 1)
            self.same(chances, [pair(chance) for chance in all_chances(house, book).values()])

    def test_wrong_books(self):
        evening = next(evenings(TWO, [ADA, BOB]))
        for book in ([ADA], [ADA, ADA], (), ["zoe", BOB], [ADA, BOB, CLEO]):
            self.refused(BadBook, chance_of, TWO, book, evening)


class StoryChances(PromiseCase):
    def test_the_facts_do_not_change_what_is_let(self):
        self.same(story_chance(STORY), (1, 1))
        self.same(story_chance(STORY.told(("wore", ADA, ADA))), (3, 4))
        self.same(story_chance(STORY, OWN), (3, 4))
        self.same(story_chance(STORY, ~OWN), (1, 4))
        self.same(story_chance(STORY.told(("before", ("in", BOB), ("out", ADA))), OWN), (1, 4))
        self.same(story_chance(STORY, Claim.of(("wore", BOB, BOB)) & ~OWN), (0, 1))

    def test_nothing_fits(self):
        self.same([story_chance(NEVER), story_chance(NEVER, OWN), story_chance(NEVER, ~OWN)], [(0, 1)] * 3)
        self.same([odds(NEVER, OWN), odds(NEVER, ~OWN)], [None, None])

    def test_odds(self):
        self.same([odds(STORY, OWN), odds(STORY, ~OWN)], [(3, 4), (1, 4)])
        late = STORY.told(("before", ("in", BOB), ("out", ADA)))
        self.same([odds(late, OWN), odds(late, ~OWN)], [(1, 2), (1, 2)])
        told = STORY.told(("wore", ADA, ADA))
        self.same([odds(told, OWN), odds(told, ~OWN)], [(1, 1), (0, 1)])
        self.same(odds(told, Claim.of(("before", ("out", ADA), ("in", BOB)))), (2, 3))

    def test_all_small_houses(self):
        between = 0
        for story, claim in odds_stories(10):
            fit = plain_sum(story)
            self.same(story_chance(story), pair(fit))
            for told in (claim, ~claim):
                kept = plain_sum(story, told)
                self.same(story_chance(story, told), pair(kept))
                self.same(odds(story, told), pair(kept / fit) if fit else None)
                between += 0 < kept < fit
        self.assertGreater(between, 20)

    def test_no_common_divisor(self):
        house = House(GUESTS, worth=[1, 1, 1])
        story = Story(house, (CLEO, ADA, BOB))
        for fact in [("wore", guest, cloak) for guest in GUESTS for cloak in GUESTS]:
            for found in (story_chance(story.told(fact)), odds(story, Claim.of(fact)), odds(story, ~Claim.of(fact))):
                self.assertEqual(gcd(*found), 1)
                self.assertGreater(found[1], 0)

    def test_wrong_claims_also_where_no_evening_fits(self):
        for story in (STORY, NEVER):
            for fact in STRANGE:
                for call in (story_chance, odds):
                    self.same(self.refused(BadFact, call, story, OWN | Claim.of(fact)).fact, fact)

    def test_five_guests(self):
        house = crowd(5)
        for guest in house.guests:
            house = house.choosing(guest, 5)
        story = Story(house, house.guests[::-1])
        claim = Claim.every([Claim.of(("before", ("out", one), ("out", two))) | Claim.of(("hung", ("in", one), 2, [two, one]))
                             for one, two in zip(house.guests, house.guests[1:])])
        with within(30):
            self.same(story_chance(story), (1, 1))
            found = [Fraction(*odds(story, each)) for each in (claim, ~claim)]
        self.assertEqual(sum(found), 1)
        self.assertGreater(min(found), 0)
