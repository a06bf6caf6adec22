"""Points 19 and 20: stories."""

from leavetaking.errors import BadBook, BadFact, BadNumber, StoriesDiffer
from leavetaking.houses import House
from leavetaking.stories import Story

from tests.helpers import ADA, BOB, CLEO, GUESTS, PromiseCase, listed

HOUSE = House(GUESTS)
BOOK = (BOB, ADA, CLEO)
WORE = ("wore", ADA, BOB)
HUNG = ("hung", ("out", ADA), 1, (BOB, CLEO))
CHOSE = ("chose", CLEO, 2)
FACTS = (WORE, HUNG, CHOSE)
WRONG = (
    (),
    ("wore",),
    ("wore", ADA, "zoe"),
    ("before", ("in", ADA), ("in", ADA)),
    ("hung", ("out", ADA), -1, (BOB,)),
    ("hung", ("out", ADA), True, (BOB,)),
    ("away", ("out", ADA), 1, (BOB, BOB)),
    ("ahead", ("out", ADA), 1, (("out", ADA),)),
    ("chose", ADA, None),
    ("liked", ADA, BOB),
)


class Making(PromiseCase):
    def test_fields(self):
        story = Story(HOUSE, list(BOOK), listed(FACTS))
        self.assertEqual(story.house, HOUSE)
        self.same((story.book, story.facts), (BOOK, FACTS))

    def test_no_facts(self):
        self.same(Story(HOUSE, BOOK).facts, ())
        self.same(Story(HOUSE, BOOK, []).facts, ())
        self.assertEqual(Story(HOUSE, BOOK), Story(HOUSE, BOOK, ()))

    def test_a_fact_may_stand_twice(self):
        story = Story(HOUSE, BOOK, [WORE, WORE, HUNG, WORE])
        self.same(story.facts, (WORE, WORE, HUNG, WORE))
        self.assertEqual((len(story), list(story)), (4, [WORE, WORE, HUNG, WORE]))

    def test_facts_that_quarrel_are_kept(self):
        facts = (WORE, ("spared", ADA, BOB))
        self.same(Story(HOUSE, BOOK, facts).facts, facts)

    def test_a_story_copies_its_arguments(self):
        book, facts = list(BOOK), listed(FACTS)
        story = Story(HOUSE, book, facts)
        self.assertEqual((book, facts), (list(BOOK), listed(FACTS)))
        book.reverse()
        facts[1][3].append(ADA)
        facts[0][2] = CLEO
        facts.pop()
        self.same((story.book, story.facts), (BOOK, FACTS))

    def test_bad_book(self):
        for book in ([], [ADA, BOB], [ADA, BOB, BOB], [ADA, BOB, "zoe"], [ADA, BOB, CLEO, CLEO]):
            self.refused(BadBook, Story, HOUSE, book)
            self.refused(BadBook, Story, HOUSE, book, [("wore", ADA, "zoe")])

    def test_bad_fact_for_the_first_item_that_is_no_fact(self):
        for wrong in WRONG:
            for facts in ([wrong], [WORE, wrong, CHOSE], [WORE, HUNG, CHOSE, wrong], [wrong, ("wore", "yan", "yan")]):
                self.same(self.refused(BadFact, Story, HOUSE, BOOK, facts).fact, wrong)
                self.same(self.refused(BadFact, Story, HOUSE, BOOK, listed(facts)).fact, wrong)


class Telling(PromiseCase):
    def test_told(self):
        story = Story(HOUSE, BOOK, [WORE])
        fact = listed(HUNG)
        longer = story.told(fact)
        self.assertIsInstance(longer, Story)
        fact[3].pop()
        self.same((longer.book, longer.facts), (BOOK, (WORE, HUNG)))
        self.assertEqual(longer.house, HOUSE)
        self.same(longer.told(WORE).facts, (WORE, HUNG, WORE))
        self.same(story.facts, (WORE,))

    def test_told_something_that_is_no_fact(self):
        story = Story(HOUSE, BOOK, FACTS)
        for wrong in WRONG:
            self.same(self.refused(BadFact, story.told, wrong).fact, wrong)
            self.same(self.refused(BadFact, story.told, listed(wrong)).fact, wrong)
        self.same(story.facts, FACTS)

    def test_untold(self):
        story = Story(HOUSE, BOOK, FACTS)
        for index, due in ((0, (HUNG, CHOSE)), (1, (WORE, CHOSE)), (2, (WORE, HUNG))):
            shorter = story.untold(index)
            self.assertIsInstance(shorter, Story)
            self.same((shorter.book, shorter.facts), (BOOK, due))
            self.assertEqual(shorter.house, HOUSE)
        self.same(story.facts, FACTS)
        self.same(Story(HOUSE, BOOK, [WORE, HUNG, WORE]).untold(2).facts, (WORE, HUNG))
        self.same(Story(HOUSE, BOOK, [WORE]).untold(0).facts, ())

    def test_untold_without_such_an_index(self):
        story = Story(HOUSE, BOOK, FACTS)
        for index in (3, 4, -1, -3, 10 ** 30, -10 ** 30):
            self.same(self.refused(BadNumber, story.untold, index).number, index)
        self.same(self.refused(BadNumber, Story(HOUSE, BOOK).untold, 0).number, 0)


class Adding(PromiseCase):
    def test_the_facts_of_both_in_order(self):
        one, two = Story(HOUSE, BOOK, [WORE, HUNG]), Story(House(GUESTS), list(BOOK), [CHOSE, WORE])
        both = one + two
        self.assertIsInstance(both, Story)
        self.same((both.book, both.facts), (BOOK, (WORE, HUNG, CHOSE, WORE)))
        self.assertEqual(both.house, HOUSE)
        self.same((two + one).facts, (CHOSE, WORE, WORE, HUNG))
        self.same((one + one).facts, (WORE, HUNG, WORE, HUNG))
        self.same((one + Story(HOUSE, BOOK)).facts, one.facts)
        self.same((one.facts, two.facts), ((WORE, HUNG), (CHOSE, WORE)))

    def test_other_houses_and_books(self):
        story = Story(HOUSE, BOOK, [WORE])
        others = (
            Story(HOUSE, GUESTS, [WORE]),
            Story(HOUSE.with_pegs(3), BOOK, [WORE]),
            Story(HOUSE.choosing(ADA, 2), BOOK, [WORE]),
            Story(House([ADA, BOB]), [BOB, ADA]),
            Story(House([BOB, ADA, CLEO]), BOOK),
        )
        for other in others:
            with self.assertRaises(StoriesDiffer):
                story + other
            with self.assertRaises(StoriesDiffer):
                other + story


class Asking(PromiseCase):
    def test_len_iteration_and_in(self):
        story = Story(HOUSE, BOOK, FACTS)
        self.assertEqual(len(story), 3)
        self.assertEqual(len(Story(HOUSE, BOOK)), 0)
        self.assertEqual([list(story), list(story)], [list(FACTS)] * 2)
        for fact in FACTS:
            self.assertIs(fact in story, True)
            self.assertIs(listed(fact) in story, True)
        for fact in (("wore", ADA, CLEO), ("spared", ADA, BOB), HUNG[:3] + ((CLEO, BOB),), HUNG[:2] + (2, (BOB, CLEO))):
            self.assertIs(fact in story, False)
            self.assertIs(listed(fact) in story, False)

    def test_equal_stories(self):
        self.assertIs(Story(HOUSE, BOOK, FACTS) == Story(House(GUESTS), list(BOOK), listed(FACTS)), True)
        self.assertIs(Story(HOUSE, BOOK, FACTS) != Story(HOUSE, BOOK, FACTS), False)
        self.assertIs(Story(HOUSE, BOOK, [WORE]).told(HUNG) == Story(HOUSE, BOOK, [WORE, HUNG]), True)

    def test_each_difference_counts(self):
        story = Story(HOUSE, BOOK, FACTS)
        others = (
            Story(HOUSE.with_pegs(3), BOOK, FACTS),
            Story(HOUSE.liking(ADA, [0, 0, 0]), BOOK, FACTS),
            Story(HOUSE, GUESTS, FACTS),
            Story(HOUSE, BOOK, (HUNG, WORE, CHOSE)),
            Story(HOUSE, BOOK, (WORE, HUNG)),
            Story(HOUSE, BOOK, FACTS + (CHOSE,)),
            Story(HOUSE, BOOK),
        )
        for other in others:
            self.assertIs(story == other, False)
            self.assertIs(other == story, False)
            self.assertIs(story != other, True)

    def test_a_story_equals_no_value_that_is_no_story(self):
        story = Story(HOUSE, BOOK, FACTS)
        for value in (None, True, 3, "", HOUSE, BOOK, FACTS, list(FACTS), object(), Story):
            self.assertIs(story == value, False)
            self.assertIs(value == story, False)
            self.assertIs(story != value, True)

    def test_wearers(self):
        self.same(Story(HOUSE, BOOK).wearers, (None, None, None))
        self.same(Story(HOUSE, BOOK, [("spared", ADA, BOB), HUNG, CHOSE]).wearers, (None, None, None))
        self.same(Story(HOUSE, BOOK, [("wore", CLEO, ADA), HUNG, WORE]).wearers, (BOB, None, ADA))
        self.same(Story(HOUSE, BOOK, [WORE, ("wore", ADA, CLEO), ("wore", BOB, BOB)]).wearers, (BOB, BOB, None))
        self.same(Story(House([CLEO, ADA]), [ADA, CLEO], [("wore", ADA, CLEO)]).wearers, (None, CLEO))
