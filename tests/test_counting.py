"""Point 76: how many evenings fit, and their numbers."""

from leavetaking.claims import Claim
from leavetaking.counting import evening_by_number, evening_count, evening_number
from leavetaking.errors import BadFact, BadNumber
from leavetaking.evenings import evenings
from leavetaking.houses import House
from leavetaking.stories import Story

from tests.helpers import (
    ADA, BOB, CLEO, GUESTS, PromiseCase, TURNED, TURNED_BOOK, TURNED_EVENING, crowd, fitting, listed, says_form,
    some_stories, within,
)

HOUSE = House(GUESTS)
BOOK = (BOB, CLEO, ADA)
STORY = Story(HOUSE, BOOK, [("spared", ADA, ADA)])
NEVER = STORY.told(("wore", ADA, ADA))
GREAT = 10 ** 40


def told_crowd(count, pegs=None):
    """A story of so many guests, each of whom has a cloak in `wearers`: the one of the next guest."""
    house = House([f"g{number}" for number in range(count)], worth=[1] * count, pegs=pegs)
    cloaks = house.guests[1:] + house.guests[:1]
    return Story(house, house.guests, [("wore", guest, cloak) for guest, cloak in zip(house.guests, cloaks)])


class Counts(PromiseCase):
    def test_with_and_without_a_claim(self):
        claim = Claim.of(("wore", BOB, BOB)) | Claim.of(("before", ("out", CLEO), ("in", ADA)))
        fit = fitting(STORY)
        self.same(evening_count(STORY), len(fit))
        self.same(evening_count(STORY, claim), len(fitting(STORY, claim)))
        self.same(evening_count(STORY, claim) + evening_count(STORY, ~claim), len(fit))
        self.assertGreater(evening_count(STORY, claim), 0)
        self.same([evening_count(NEVER), evening_count(NEVER, claim), evening_count(NEVER, ~claim)], [0, 0, 0])
        self.same(evening_count(Story(House([ADA]), [ADA])), 1)
        self.same(evening_count(Story(House([ADA]), [ADA]), Claim.of(("spared", ADA, ADA))), 0)
        self.same(evening_count(STORY, Claim.of(("spared", ADA, ADA))), len(fit))

    def test_all_small_houses(self):
        between = 0
        for story, claim in some_stories(14):
            for told in (None, claim, ~claim):
                due = fitting(story, told)
                self.same(evening_count(story, told), len(due))
                between += told is not None and 0 < len(due) < len(fitting(story))
        self.assertGreater(between, 20)

    def test_claims_of_many_facts(self):
        parts = [Claim.of(("hung", ("out", guest), 2, GUESTS)) | Claim.of(("before", ("in", ADA), ("out", guest)))
                 for guest in GUESTS]
        parts += [Claim.of(("wore", guest, cloak)) & Claim.of(("chose", guest, 1)) for guest, cloak in zip(GUESTS, BOOK)]
        house = HOUSE.choosing(ADA, 2).choosing(BOB, 3)
        story = Story(house, BOOK)
        every = [evening for evening in evenings(house, BOOK)]
        for claim in (Claim.every(parts[:3]), Claim.some(parts), parts[3] | ~parts[0], ~Claim.some(parts[2:5])):
            self.same(evening_count(story, claim), len([1 for one in every if says_form(house, one, claim.form)]))

    def test_wrong_claims(self):
        for story in (STORY, NEVER):
            for fact in (("wore", "zoe", ADA), ("chose", ADA, -1)):
                claim = Claim.of(("wore", ADA, BOB)) & Claim.of(fact)
                self.same(self.refused(BadFact, evening_count, story, claim).fact, fact)

    def test_five_guests(self):
        house = crowd(5)
        for guest in house.guests:
            house = house.choosing(guest, 5)
        story = Story(house, house.guests)
        claims = [Claim.of(("before", ("out", one), ("out", two))) | Claim.of(("wore", one, two))
                  for one, two in zip(house.guests, house.guests[1:])]
        with within(30):
            self.same(evening_count(story), 50521)
            both = [evening_count(story, claim) for claim in (Claim.every(claims), ~Claim.every(claims))]
            self.same(sum(both), 50521)
            self.same(evening_number(story, evening_by_number(story, 50520)), 50520)
        self.assertGreater(min(both), 0)

    def test_six_and_seven_guests_whose_wearers_are_told(self):
        with within(60):
            for count, pegs in ((6, None), (7, None), (7, 3)):
                story = told_crowd(count, pegs)
                many = evening_count(story)
                claim = Claim.of(("before", ("out", "g0"), ("in", "g5"))) | Claim.of(("hung", ("out", "g3"), 2, ["g1"]))
                self.same(evening_count(story, claim) + evening_count(story, ~claim), many)
                numbers = [0, 1, many // 2, many - 1]
                found = [evening_by_number(story, number) for number in numbers]
                self.same([evening_number(story, evening) for evening in found], numbers)
                for evening in found:
                    self.assertEqual(len(evening), 2 * count)
        # With one peg nobody can leave in the cloak of a guest that comes later.
        self.same(evening_count(told_crowd(6, 1)), 0)
        self.same(evening_count(told_crowd(3)), len(fitting(told_crowd(3))))


class Numbers(PromiseCase):
    def test_every_evening_and_every_number(self):
        for story, _ in some_stories(6):
            due = fitting(story)
            self.same([evening_by_number(story, number) for number in range(len(due))], due)
            self.same([evening_number(story, evening) for evening in due], list(range(len(due))))
            for evening in evenings(story.house, story.book):
                if evening not in due:
                    self.assertIsNone(evening_number(story, evening))

    def test_what_does_not_fit(self):
        fit = fitting(STORY)
        self.same(evening_number(STORY, fit[2]), 2)
        for steps in ((), fit[2][:-1], fit[2] + (("in", ADA),), fit[2] + fit[2][-1:], fit[2][1:], [("in", "zoe")],
                      (("out", "zoe", ""), ("in", BOB)), fit[2][:3] + (("in", "zoe"),), fit[2] * 10):
            self.assertIsNone(evening_number(STORY, steps), steps)
            self.assertIsNone(evening_number(NEVER, steps), steps)
        # An evening of another book, and one of another house.
        other = next(evenings(HOUSE, GUESTS))
        self.same(evening_number(Story(HOUSE, GUESTS), other), 0)
        self.assertIsNone(evening_number(Story(HOUSE, BOOK), other))
        self.same(evening_number(Story(TURNED, TURNED_BOOK), listed(TURNED_EVENING)),
                  list(evenings(TURNED, TURNED_BOOK)).index(TURNED_EVENING))
        self.assertIsNone(evening_number(Story(HOUSE, TURNED_BOOK), TURNED_EVENING))
        self.assertIsNone(evening_number(NEVER, fit[2]))

    def test_numbers_that_there_are_not(self):
        many = evening_count(STORY)
        for number in (-1, many, many + 1, GREAT, -GREAT, -many):
            self.same(self.refused(BadNumber, evening_by_number, STORY, number).number, number)
        for number in (-1, 0, 1, GREAT):
            self.same(self.refused(BadNumber, evening_by_number, NEVER, number).number, number)
        # A story that lets not even the first step be made.
        barred = STORY.told(("before", ("out", ADA), ("in", BOB)))
        self.same(self.refused(BadNumber, evening_by_number, barred, 0).number, 0)
        self.assertIsNone(evening_number(barred, fitting(STORY)[0]))
        self.same([evening_count(barred), evening_count(barred, Claim.of(("wore", ADA, ADA)))], [0, 0])
        self.same(evening_by_number(Story(House([ADA]), [ADA]), 0), (("in", ADA), ("out", ADA, ADA)))
        self.same(self.refused(BadNumber, evening_by_number, Story(House([ADA]), [ADA]), 1).number, 1)
