"""Point 47: facts that quarrel, and those that must be doubted."""

from leavetaking.houses import House
from leavetaking.quarrels import fewest_doubted, least_doubts, least_quarrels
from leavetaking.stories import Story

from tests.helpers import (
    ADA, BOB, CLEO, GUESTS, PromiseCase, crowd, fitting, many_facts, plain_least, sample_houses, says,
)

IN_ADA, IN_BOB, IN_CLEO = [("in", guest) for guest in GUESTS]
OUT_ADA, OUT_BOB, OUT_CLEO = [("out", guest) for guest in GUESTS]
EMPTY = Story(House(GUESTS), GUESTS)


def story_with(*facts):
    """A story of three guests."""
    return Story(House(GUESTS), GUESTS, facts)


class Quarrels(PromiseCase):
    def check(self, story):
        """The answers against all evenings; gives back whether some evening fits."""
        every = fitting(Story(story.house, story.book))
        so = [[says(story.house, evening, fact) for fact in story.facts] for evening in every]

        def agree(lot):
            return any(all(row[index] for index in lot) for row in so)

        indexes = range(len(story))
        quarrels = plain_least(len(story), lambda lot: not agree(lot))
        doubts = plain_least(len(story), lambda lot: agree([index for index in indexes if index not in lot]))
        self.same(least_quarrels(story), quarrels)
        self.same(least_doubts(story), doubts)
        self.same(fewest_doubted(story), doubts[0])
        for doubt in least_doubts(story):
            for quarrel in least_quarrels(story):
                self.assertTrue(set(doubt) & set(quarrel))
        return doubts == ((),)

    def test_no_fact(self):
        self.same(least_quarrels(EMPTY), ())
        self.same(least_doubts(EMPTY), ((),))
        self.same(fewest_doubted(EMPTY), ())

    def test_facts_that_some_evening_fits(self):
        story = story_with(("wore", ADA, BOB), ("before", OUT_BOB, IN_CLEO), ("wore", ADA, BOB))
        self.same((least_quarrels(story), least_doubts(story), fewest_doubted(story)), ((), ((),), ()))
        self.assertIs(self.check(story), True)

    def test_one_fact_that_is_never_so(self):
        story = story_with(("wore", ADA, BOB), ("chose", CLEO, 0), ("before", OUT_BOB, IN_CLEO))
        self.same((least_quarrels(story), least_doubts(story), fewest_doubted(story)), (((1,),), ((1,),), (1,)))
        self.check(story)

    def test_lots_in_order(self):
        story = story_with(
            ("wore", ADA, BOB), ("before", OUT_ADA, IN_BOB), ("wore", ADA, CLEO), ("wore", ADA, ADA),
        )
        self.same(least_quarrels(story), ((0, 1), (0, 2), (0, 3), (1, 2), (2, 3)))
        self.same(least_doubts(story), ((0, 2), (0, 1, 3), (1, 2, 3)))
        self.same(fewest_doubted(story), (0, 2))
        self.check(story)

    def test_shorter_lots_first(self):
        story = story_with(
            ("wore", ADA, BOB), ("wore", BOB, CLEO), ("wore", CLEO, CLEO), ("spared", CLEO, ADA), ("chose", BOB, 0),
        )
        self.same(least_quarrels(story), ((4,), (1, 2), (0, 1, 3)))
        self.same(least_doubts(story), ((1, 4), (0, 2, 4), (2, 3, 4)))
        self.same(fewest_doubted(story), (1, 4))
        self.check(story)

    def test_equal_facts(self):
        told, other = ("wore", ADA, BOB), ("before", OUT_ADA, IN_BOB)
        story = story_with(told, other, told)
        self.same(least_quarrels(story), ((0, 1), (1, 2)))
        self.same(least_doubts(story), ((1,), (0, 2)))
        self.same(fewest_doubted(story), (1,))
        never = ("chose", BOB, 0)
        self.same(least_quarrels(story_with(never, told, never)), ((0,), (2,)))
        self.same(least_doubts(story_with(never, told, never)), ((0, 2),))

    def test_seven_facts(self):
        facts = [("wore", guest, cloak) for guest in (ADA, BOB) for cloak in GUESTS] + [("wore", CLEO, ADA)]
        self.check(story_with(*facts))
        # With cleo in ada's cloak ada wore cleo's and bob its own, or ada wore bob's and bob cleo's.
        self.same(least_doubts(story_with(*facts))[:2], ((0, 1, 3, 5), (0, 2, 3, 4)))
        self.same(fewest_doubted(story_with(*facts)), (0, 1, 3, 5))
        self.same(least_doubts(story_with(*[("chose", ADA, 0)] * 7)), (tuple(range(7)),))
        self.same(least_quarrels(story_with(*[("chose", ADA, 0)] * 7)), tuple([(index,) for index in range(7)]))

    def test_all_evenings_of_small_houses(self):
        fit = [self.check(story) for story, _ in many_facts(10)]
        self.assertGreater(fit.count(False), 30)
        self.assertGreater(fit.count(True), 5)

    def test_a_house_of_four(self):
        house = crowd(4).with_pegs(3)
        out = [("out", guest) for guest in house.guests]
        facts = [("wore", "g0", "g3"), ("before", out[0], ("in", "g3")), ("bare", out[2], 1, ("g0", "g1")),
                 ("wore", "g2", "g2"), ("before", out[2], out[0]), ("there", ("in", "g3"), 3, ("g0", "g1", "g2"))]
        self.assertIs(self.check(Story(house, house.guests, facts)), False)

    def test_the_smallest_houses(self):
        for house, book in sample_houses():
            first = ("out", book[0])
            self.check(Story(house, book, [("before", first, ("in", book[0])), ("chose", book[-1], 40)]))
            self.check(Story(house, book, [("settled", book[0], 1), ("bare", first, 1, (book[-1],))]))
