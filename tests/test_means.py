"""Points 78 and 79: odds of wearings, means, the likeliest evening, and the odds of a moment."""

from fractions import Fraction

from leavetaking.errors import UnknownGuest
from leavetaking.evenings import wearing_of
from leavetaking.houses import House
from leavetaking.means import likeliest, mean_come, moment_odds, wearing_odds
from leavetaking.stories import Story

from tests.helpers import (
    ADA, BOB, CLEO, GUESTS, PromiseCase, come_at, crowd, fitting, plain_wearings, within,
)
from tests.helpers_odds import hung_then, odds_stories, pair, plain_chance

TWO = Story(House([ADA, BOB]), (ADA, BOB))
NEVER = TWO.told(("wore", ADA, ADA)).told(("wore", BOB, ADA))
HOUSE = House(GUESTS)
BOOK = (CLEO, ADA, BOB)


def weighed(story):
    """All evenings that fit, in order, each with its chance."""
    return [(evening, plain_chance(story.house, story.book, evening)) for evening in fitting(story)]


class WearingOdds(PromiseCase):
    def test_two_guests(self):
        self.same(wearing_odds(TWO), (((ADA, BOB), (3, 4)), ((BOB, ADA), (1, 4))))
        self.same(wearing_odds(TWO.told(("wore", BOB, ADA))), (((BOB, ADA), (1, 1)),))
        self.same(wearing_odds(NEVER), ())
        # Bob comes first, but ascending order goes by the house.
        self.same(wearing_odds(Story(House([ADA, BOB]), (BOB, ADA))), (((ADA, BOB), (3, 4)), ((BOB, ADA), (1, 4))))

    def test_all_small_houses(self):
        many = 0
        for story, _ in odds_stories(8):
            chances = {}
            for evening, chance in weighed(story):
                wearing = wearing_of(story.house, evening)
                chances[wearing] = chances.get(wearing, 0) + chance
            due = tuple([(wearing, pair(chances[wearing] / sum(chances.values()))) for wearing in plain_wearings(story)])
            self.same(wearing_odds(story), due)
            many += len(due) > 2
        self.assertGreater(many, 10)

    def test_the_odds_of_all_wearings_add_up_to_one(self):
        house = crowd(5)
        for guest in house.guests:
            house = house.choosing(guest, 5)
        with within(30):
            found = wearing_odds(Story(house, house.guests))
        self.assertEqual(len(found), 120)
        self.assertEqual(sum([Fraction(*chance) for _, chance in found]), 1)


class MeanCome(PromiseCase):
    def test_weighted_by_chance_and_not_by_number(self):
        # ada leaves with one guest come in one evening of chance 1/2, and with two come in two of 1/4.
        self.same(mean_come(TWO, ADA), (3, 2))
        self.same(mean_come(TWO, BOB), (2, 1))
        self.same(mean_come(TWO.told(("wore", ADA, ADA)), ADA), (4, 3))
        self.same(mean_come(Story(House([ADA]), [ADA]), ADA), (1, 1))

    def test_all_small_houses(self):
        fractions = 0
        for story, _ in odds_stories(8):
            every = weighed(story)
            total = sum([chance for _, chance in every])
            for guest in story.house:
                due = sum([come_at(evening, guest) * chance for evening, chance in every])
                self.same(mean_come(story, guest), pair(due / total) if every else None)
                fractions += bool(every) and (due / total).denominator > 1
        self.assertGreater(fractions, 50)

    def test_unknown_guest_in_any_case(self):
        for story in (TWO, NEVER):
            for name in ("zoe", "", CLEO):
                for call in (mean_come, moment_odds):
                    self.same(self.refused(UnknownGuest, call, story, name).name, name)
        self.assertIsNone(mean_come(NEVER, ADA))
        self.assertIsNone(moment_odds(NEVER, ADA))


class Likeliest(PromiseCase):
    def test_the_first_one_of_several(self):
        story = TWO.told(("before", ("in", BOB), ("out", ADA)))
        self.same(likeliest(story), ((("in", ADA), ("in", BOB), ("out", ADA, ADA), ("out", BOB, BOB)), (1, 4)))
        self.same(likeliest(TWO), ((("in", ADA), ("out", ADA, ADA), ("in", BOB), ("out", BOB, BOB)), (1, 2)))
        self.assertIsNone(likeliest(NEVER))
        self.same(likeliest(Story(House([ADA]), [ADA])), ((("in", ADA), ("out", ADA, ADA)), (1, 1)))

    def test_all_small_houses(self):
        several = 0
        for story, _ in odds_stories(8):
            every = weighed(story)
            if not every:
                self.assertIsNone(likeliest(story))
                continue
            best = max([chance for _, chance in every])
            firsts = [evening for evening, chance in every if chance == best]
            self.same(likeliest(story), (firsts[0], pair(best)))
            several += len(firsts) > 1
        self.assertGreater(several, 5)

    def test_five_guests(self):
        house = crowd(5)
        for guest in house.guests:
            house = house.choosing(guest, 5)
        facts = [("before", ("in", "g4"), ("out", guest)) for guest in house.guests]
        with within(30):
            evening, chance = likeliest(Story(house, house.guests, facts))
        # 5 comings, of which all but the first one had other steps beside them; then 25, 16, 9 and 4 steps are let.
        self.same(evening[5:], tuple([("out", guest, guest) for guest in house.guests]))
        self.same(chance, (1, 2 * 5 * 10 * 17 * 25 * 16 * 9 * 4))


class MomentOdds(PromiseCase):
    def test_ahead_of_and_at_the_coming_of_the_bringer(self):
        self.same(moment_odds(TWO, ADA), ((0, 1), (1, 2)))
        self.same(moment_odds(TWO, BOB), ((0, 1), (0, 1)))
        self.same(moment_odds(TWO.told(("before", ("in", BOB), ("out", ADA))), ADA), ((0, 1), (1, 1)))
        turned = Story(House(GUESTS, brings=(BOB, CLEO, ADA)), (BOB, ADA, CLEO))
        self.same(moment_odds(turned, ADA), ((0, 1),) * 3)
        self.same([chance > (0, 1) for chance in moment_odds(turned, CLEO)], [False, True, True])
        self.same([chance > (0, 1) for chance in moment_odds(turned, BOB)], [False, False, True])

    def test_books_that_are_not_in_house_order(self):
        story = Story(HOUSE, BOOK)
        self.same(moment_odds(story, CLEO)[:2], ((0, 1), (1, 2)))
        self.same(moment_odds(story, BOB), ((0, 1),) * 3)
        self.same(moment_odds(story, ADA)[:2], ((0, 1),) * 2)

    def test_all_small_houses(self):
        between = 0
        for story, _ in odds_stories(8):
            every = weighed(story)
            total = sum([chance for _, chance in every])
            for cloak in story.house:
                due = [sum([chance for evening, chance in every
                            if cloak in hung_then(story.house, evening, ("in", comer))]) for comer in story.book]
                found = moment_odds(story, cloak)
                self.same(found, tuple([pair(part / total) for part in due]) if every else None)
                between += bool(every) and any([0 < part < total for part in due])
        self.assertGreater(between, 30)
