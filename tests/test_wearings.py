"""Point 40: possible wearings and their evenings."""

from itertools import permutations

from leavetaking.casework import cases_of
from leavetaking.claims import Claim
from leavetaking.errors import BadFact, BadWearing
from leavetaking.evenings import wearing_of
from leavetaking.houses import House
from leavetaking.hurrying import hurry
from leavetaking.stories import Story
from leavetaking.wearings import evening_of_wearing, possible_wearings

from tests.helpers import (
    ADA, BOB, CLEO, GUESTS, PromiseCase, bounded_stories, crowd, fitting, listed, sample_houses, within,
)

STRANGE = ("chose", "zoe", 1)
STRANGERS = Claim.of(("wore", ADA, BOB)) | Claim.of(STRANGE)
STORY = Story(House([CLEO, ADA, BOB]), [ADA, BOB, CLEO])


class Possible(PromiseCase):
    def check(self, story, claim):
        found = {wearing_of(story.house, evening) for evening in fitting(story, claim)}
        due = tuple([wearing for wearing in permutations(story.house.guests) if wearing in found])
        self.same(tuple(possible_wearings(story, claim)), due)

    def test_in_ascending_order(self):
        # The cloak that is worth most is cleo's, and cleo comes last.
        self.same(tuple(possible_wearings(STORY)), tuple(permutations((CLEO, ADA, BOB))))
        told = STORY.told(("before", ("out", ADA), ("in", CLEO)))
        self.same(tuple(possible_wearings(told)), ((CLEO, ADA, BOB), (CLEO, BOB, ADA), (BOB, ADA, CLEO)))
        claim = Claim.of(("wore", CLEO, BOB)) | Claim.of(("wore", ADA, CLEO))
        self.same(tuple(possible_wearings(STORY, claim)), ((ADA, CLEO, BOB), (BOB, CLEO, ADA), (BOB, ADA, CLEO)))

    def test_none_is_possible(self):
        self.same(tuple(possible_wearings(STORY.told(("chose", ADA, 0)))), ())
        self.same(tuple(possible_wearings(STORY, Claim.of(("chose", ADA, 0)))), ())
        self.same(tuple(possible_wearings(STORY.told(("wore", ADA, BOB)).told(("wore", BOB, BOB)))), ())

    def test_with_and_without_a_claim(self):
        for house, book in sample_houses():
            self.check(Story(house, book), None)
        for story, claim in bounded_stories(12):
            for told in (None, claim, ~claim):
                self.check(story, told)
            self.same(tuple(possible_wearings(story, None)), tuple(possible_wearings(story)))

    def test_strangers(self):
        for story in (STORY, STORY.told(("wore", ADA, BOB)).told(("wore", BOB, BOB))):
            found = possible_wearings(story, STRANGERS)
            with self.assertRaises(BadFact) as caught:
                next(found)
            self.same(caught.exception.fact, STRANGE)

    def test_two_generators_in_turn(self):
        told = STORY.told(("before", ("in", CLEO), ("out", ADA)))
        claim = Claim.of(("before", ("out", BOB), ("in", CLEO)))
        alone = [list(possible_wearings(told)), list(possible_wearings(STORY, claim)), list(cases_of(told, claim))]
        one, two, three = possible_wearings(told), possible_wearings(STORY, claim), cases_of(told, claim)
        found = [[], [], []]
        for _ in range(20):
            for at, generator in ((0, one), (1, two), (2, three)):
                found[at].extend([item for item in [next(generator, None)] if item is not None])
            evening_of_wearing(STORY, [ADA, BOB, CLEO], claim)
        self.assertEqual(found[:2], alone[:2])
        self.assertEqual([(case.wearing, case.facts) for case in found[2]],
                         [(case.wearing, case.facts) for case in alone[2]])
        self.assertGreater(min([len(items) for items in found]), 1)

    def test_the_first_ones_without_the_rest(self):
        house = crowd(6)
        leavings = tuple([("out", guest) for guest in house.guests])
        # Very many cases for each wearing, of which the first one is whole already.
        facts = [("ahead", ("in", guest), 4, leavings) for guest in house.guests] * 2
        with within(20):
            found = possible_wearings(Story(house, house.guests, facts))
            self.same([next(found) for _ in range(3)], list(permutations(house.guests))[:3])

    def test_a_great_house(self):
        house = crowd(30)
        story = Story(house, house.guests, [("wore", guest, guest) for guest in house.guests[:26]])
        with within(20):
            found = list(possible_wearings(story))
        self.same(found, [house.guests[:26] + rest for rest in permutations(house.guests[26:])])


class EveningOf(PromiseCase):
    def test_the_first_whole_hurried_evening(self):
        for story, claim in bounded_stories(6):
            for told in (None, claim):
                for wearing in permutations(story.house.guests):
                    whole = [hurry(case).steps for case in cases_of(story, told)
                             if case.wearing == wearing and hurry(case).whole]
                    due = whole[0] if whole else None
                    self.same(evening_of_wearing(story, wearing, told), due)
                    self.same(evening_of_wearing(story, list(wearing), told), due)
                    fit = [steps for steps in fitting(story, told) if wearing_of(story.house, steps) == wearing]
                    self.assertTrue(due in fit if fit else due is None)

    def test_without_a_claim(self):
        self.same(evening_of_wearing(STORY, (CLEO, BOB, ADA)), (
            ("in", ADA), ("in", BOB), ("out", BOB, ADA), ("out", ADA, BOB), ("in", CLEO), ("out", CLEO, CLEO),
        ))
        self.assertIsNone(evening_of_wearing(STORY.told(("wore", ADA, ADA)), (CLEO, BOB, ADA)))
        self.assertIsNone(evening_of_wearing(STORY.told(("before", ("out", ADA), ("in", BOB))), (CLEO, BOB, ADA)))
        self.assertIsNone(evening_of_wearing(STORY, (CLEO, BOB, ADA), Claim.of(("wore", ADA, ADA))))

    def test_bad_wearing(self):
        for story in (STORY, STORY.told(("chose", ADA, 0))):
            for wearing in ((), (ADA, BOB), (ADA, BOB, BOB), (ADA, BOB, "zoe"), (ADA, BOB, CLEO, CLEO)):
                for claim in (None, Claim.of(("wore", ADA, ADA)), STRANGERS):
                    self.refused(BadWearing, evening_of_wearing, story, wearing, claim)
                    self.refused(BadWearing, evening_of_wearing, story, listed(wearing), claim)

    def test_strangers(self):
        for story in (STORY, STORY.told(("wore", ADA, ADA))):
            for wearing in permutations(GUESTS):
                self.same(self.refused(BadFact, evening_of_wearing, story, wearing, STRANGERS).fact, STRANGE)

    def test_the_wearing_is_not_changed(self):
        wearing = [CLEO, BOB, ADA]
        evening_of_wearing(STORY, wearing)
        self.assertEqual(wearing, [CLEO, BOB, ADA])
