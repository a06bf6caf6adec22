"""Point 46: spare facts and lean stories."""

from leavetaking.houses import House
from leavetaking.sparing import lean, spare_facts
from leavetaking.stories import Story

from tests.helpers import ADA, BOB, CLEO, GUESTS, PromiseCase, fitting, many_facts, sample_houses

IN_ADA, IN_BOB, IN_CLEO = [("in", guest) for guest in GUESTS]
OUT_ADA, OUT_BOB, OUT_CLEO = [("out", guest) for guest in GUESTS]
EMPTY = Story(House(GUESTS), GUESTS)


def plain_spare(story):
    """The indexes of all spare facts, told by all evenings."""
    fit = fitting(story)
    return [index for index in range(len(story)) if fitting(story.untold(index)) == fit]


class Spare(PromiseCase):
    def check(self, story):
        self.same(spare_facts(story), tuple(plain_spare(story)))
        leaner = story
        for index in reversed(range(len(story))):
            if index in plain_spare(leaner):
                leaner = leaner.untold(index)
        found = lean(story)
        self.assertIsInstance(found, Story)
        self.assertEqual(found, leaner)
        self.assertEqual(fitting(found), fitting(story))
        self.same(spare_facts(found), ())

    def test_no_fact(self):
        self.same(spare_facts(EMPTY), ())
        self.assertEqual(lean(EMPTY), EMPTY)

    def test_facts_that_are_always_so(self):
        story = EMPTY.told(("before", IN_ADA, OUT_BOB)).told(("wore", ADA, BOB)).told(("chose", BOB, 1))
        self.same(spare_facts(story), (0, 2))
        self.assertEqual(lean(story), EMPTY.told(("wore", ADA, BOB)))

    def test_each_alone_is_spare_but_not_both(self):
        story = EMPTY.told(("wore", ADA, BOB)).told(("wore", BOB, ADA)).told(("wore", CLEO, CLEO))
        # Any two of the three say the third one.
        self.same(spare_facts(story), (0, 1, 2))
        self.assertEqual(lean(story), EMPTY.told(("wore", ADA, BOB)).told(("wore", BOB, ADA)))
        self.check(story)

    def test_equal_facts(self):
        told = ("wore", ADA, BOB)
        story = EMPTY.told(told).told(("before", OUT_BOB, IN_CLEO)).told(told)
        self.same(spare_facts(story), (0, 2))
        # The last one is taken out.
        self.assertEqual(lean(story), EMPTY.told(told).told(("before", OUT_BOB, IN_CLEO)))
        self.assertEqual(lean(EMPTY + story + story).facts, (told, ("before", OUT_BOB, IN_CLEO)))

    def test_later_facts_are_taken_out_first(self):
        one, two = ("before", OUT_ADA, OUT_BOB), ("before", OUT_ADA, IN_BOB)
        self.assertEqual(lean(EMPTY.told(one).told(two)).facts, (two,))
        self.assertEqual(lean(EMPTY.told(two).told(one)).facts, (two,))
        self.same(spare_facts(EMPTY.told(one).told(two)), (0,))

    def test_facts_that_no_evening_fits(self):
        story = EMPTY.told(("wore", ADA, BOB)).told(("chose", CLEO, 0)).told(("wore", ADA, CLEO))
        # Without one of the others still no evening fits; without the second one neither.
        self.same(spare_facts(story), (0, 1, 2))
        self.assertEqual(lean(story).facts, (("chose", CLEO, 0),))
        story = EMPTY.told(("chose", CLEO, 0)).told(("wore", ADA, BOB)).told(("wore", ADA, CLEO))
        self.assertEqual(lean(story).facts, (("chose", CLEO, 0),))
        story = EMPTY.told(("wore", ADA, BOB)).told(("wore", ADA, CLEO))
        self.same(spare_facts(story), ())
        self.assertEqual(lean(story), story)

    def test_all_evenings_of_small_houses(self):
        lengths = set()
        for story, _ in many_facts(8):
            self.check(story)
            lengths.add(len(story) - len(lean(story)))
        self.assertGreater(len(lengths), 4)

    def test_the_story_is_not_changed(self):
        for house, book in sample_houses():
            story = Story(house, book, [("before", ("in", book[0]), ("out", book[0]))])
            self.assertEqual(lean(story), Story(house, book))
            self.assertEqual(len(story), 1)
