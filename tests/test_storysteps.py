"""Point 74: the steps that a story lets be made."""

from leavetaking.evenings import evenings
from leavetaking.houses import House
from leavetaking.standings import START, next_steps
from leavetaking.stories import Story
from leavetaking.storysteps import story_steps

from tests.helpers import (
    ADA, BOB, CLEO, GUESTS, PromiseCase, TURNED, TURNED_BOOK, all_facts, fitting, listed, sample_houses, says,
    some_stories,
)
from tests.helpers_odds import about, standing_at

HOUSE = House(GUESTS)
BOOK = (CLEO, ADA, BOB)
# cleo and ada have come; then cleo has left in the cloak of ada.
TWO = (2, ())
ONE_LEFT = (2, ((CLEO, ADA),))


def steps_with(standing, *facts):
    """The steps that a story with these facts lets be made."""
    return story_steps(Story(HOUSE, BOOK, facts), standing)


class StorySteps(PromiseCase):
    def test_without_facts(self):
        self.same(steps_with(START), (("in", CLEO),))
        self.same(steps_with(TWO), (("in", BOB), ("out", ADA, ADA), ("out", CLEO, ADA)))
        self.same(steps_with(ONE_LEFT), (("in", BOB), ("out", ADA, CLEO)))
        self.same(steps_with((3, ((ADA, ADA), (BOB, BOB), (CLEO, CLEO)))), ())

    def test_wore_and_spared(self):
        self.same(steps_with(TWO, ("wore", ADA, ADA)), (("in", BOB), ("out", ADA, ADA), ("out", CLEO, ADA)))
        self.same(steps_with(TWO, ("wore", ADA, BOB)), (("in", BOB), ("out", CLEO, ADA)))
        self.same(steps_with(TWO, ("spared", ADA, ADA)), (("in", BOB), ("out", CLEO, ADA)))
        self.same(steps_with(TWO, ("spared", ADA, CLEO)), (("in", BOB), ("out", ADA, ADA), ("out", CLEO, ADA)))
        # ada's own fact alone: that its cloak is taken by cleo is not looked at ahead of time.
        self.same(steps_with(ONE_LEFT, ("wore", ADA, ADA)), (("in", BOB),))

    def test_before_in_both_directions(self):
        self.same(steps_with(TWO, ("before", ("out", ADA), ("in", BOB))), (("out", ADA, ADA), ("out", CLEO, ADA)))
        self.same(steps_with(TWO, ("before", ("in", BOB), ("out", ADA))), (("in", BOB), ("out", CLEO, ADA)))
        self.same(steps_with(TWO, ("before", ("out", ADA), ("out", CLEO))), (("in", BOB), ("out", ADA, ADA)))
        self.same(steps_with(ONE_LEFT, ("before", ("out", CLEO), ("in", BOB))), (("in", BOB), ("out", ADA, CLEO)))
        # What has gone wrong already is broken by no step any more.
        self.same(steps_with(ONE_LEFT, ("before", ("out", ADA), ("out", CLEO))), (("in", BOB), ("out", ADA, CLEO)))
        self.same(steps_with(START, ("before", ("in", ADA), ("in", CLEO))), ())

    def test_what_hangs_and_who_is_there(self):
        both = (("out", ADA, ADA), ("out", CLEO, ADA))
        for kind, other in (("hung", "bare"), ("there", "away")):
            self.same(steps_with(TWO, (kind, ("in", BOB), 2, (CLEO, ADA))), (("in", BOB),) + both)
            self.same(steps_with(TWO, (kind, ("in", BOB), 3, GUESTS)), both)
            self.same(steps_with(TWO, (kind, ("in", BOB), 1, (BOB,))), both)
            self.same(steps_with(TWO, (other, ("in", BOB), 2, (CLEO, ADA))), both)
            self.same(steps_with(TWO, (other, ("in", BOB), 3, GUESTS)), (("in", BOB),) + both)
            self.same(steps_with(TWO, (other, ("in", BOB), 0, ())), both)
        # At its own leaving a guest is there, and the cloak that it takes hangs.
        self.same(steps_with(TWO, ("there", ("out", ADA), 1, (ADA,)), ("hung", ("out", CLEO), 1, (ADA,))),
                  (("in", BOB),) + both)
        self.same(steps_with(ONE_LEFT, ("hung", ("out", ADA), 1, (ADA,))), (("in", BOB),))
        self.same(steps_with(ONE_LEFT, ("away", ("out", ADA), 1, (CLEO,))), (("in", BOB), ("out", ADA, CLEO)))

    def test_what_happened(self):
        told = (("in", CLEO), ("out", CLEO), ("out", BOB))
        self.same(steps_with(ONE_LEFT, ("after", ("out", ADA), 2, told)), (("in", BOB), ("out", ADA, CLEO)))
        self.same(steps_with(ONE_LEFT, ("after", ("out", ADA), 3, told)), (("in", BOB),))
        self.same(steps_with(ONE_LEFT, ("ahead", ("out", ADA), 2, told)), (("in", BOB),))
        self.same(steps_with(ONE_LEFT, ("ahead", ("out", ADA), 3, told)), (("in", BOB), ("out", ADA, CLEO)))

    def test_depths(self):
        deep = HOUSE.choosing(ADA, 3).choosing(CLEO, 2)
        steps = (("in", BOB), ("out", ADA, ADA), ("out", ADA, CLEO), ("out", CLEO, ADA), ("out", CLEO, CLEO))
        self.same(story_steps(Story(deep, BOOK), TWO), steps)
        self.same(story_steps(Story(deep, BOOK, [("chose", ADA, 1)]), TWO), steps[:2] + steps[3:])
        self.same(story_steps(Story(deep, BOOK, [("settled", CLEO, 1)]), TWO), steps[:3] + steps[4:])
        self.same(story_steps(Story(deep, BOOK, [("chose", ADA, 0), ("settled", CLEO, 2)]), TWO), steps[:1])

    def test_lists(self):
        self.same(steps_with([2, [[CLEO, ADA]]], ["wore", ADA, CLEO]), (("in", BOB), ("out", ADA, CLEO)))

    def test_every_fact_at_every_step(self):
        broken, kept = set(), set()
        for house, book in sample_houses():
            every = list(evenings(house, book))
            for fact in all_facts(house)[::3 if len(house) == 3 else 1]:
                story = Story(house, book, [fact])
                for evening in every[::5]:
                    place = [step[:2] for step in evening].index(about(fact))
                    step, standing = evening[place], standing_at(house, evening, place)
                    found = step in story_steps(story, standing)
                    self.assertIs(found, says(house, evening, fact), (house.guests, fact, evening))
                    (kept if found else broken).add(fact[0])
        self.assertEqual((len(broken), len(kept)), (11, 11))

    def test_a_step_is_broken_by_facts_about_its_event_alone(self):
        for story, _ in some_stories(4):
            for evening in list(evenings(story.house, story.book))[::7]:
                for place, step in enumerate(evening):
                    due = all(says(story.house, evening, fact) for fact in story.facts if about(fact) == step[:2])
                    standing = standing_at(story.house, evening, place)
                    self.assertIs(step in story_steps(story, standing), due)
                    let = next_steps(story.house, story.book, standing)
                    found = story_steps(story, listed(standing))
                    self.same(found, tuple([step for step in let if step in found]))

    def test_an_evening_fits_if_no_step_breaks_a_fact(self):
        for story, _ in some_stories(4):
            house = story.house
            unbroken = [evening for evening in evenings(house, story.book)
                        if all(evening[place] in story_steps(story, standing_at(house, evening, place))
                               for place in range(len(evening)))]
            self.assertEqual(unbroken, fitting(story))

    def test_standings_that_come_about_in_no_evening(self):
        story = Story(TURNED.with_pegs(1), TURNED_BOOK, [("wore", ADA, BOB)])
        # With one peg, no two cloaks ever hang.
        self.same(story_steps(story, (2, ())), (("out", ADA, BOB), ("out", BOB, BOB), ("out", BOB, CLEO)))
        self.same(story_steps(story, (3, ((BOB, ADA),))), (("out", ADA, BOB), ("out", CLEO, BOB)))
