"""Points 67 and 73: torn stories, and the stories that books make of them."""

from itertools import permutations, product

from leavetaking.errors import BadBook, BadFact
from leavetaking.evenings import evenings
from leavetaking.fitting import fits
from leavetaking.houses import House
from leavetaking.stories import Story
from leavetaking.torn import Torn, book_story, torn_fits, torn_of

from tests.helpers import (
    ADA, BOB, CLEO, GUESTS, PromiseCase, TURNED, TURNED_BOOK, TURNED_EVENING, crowd, listed, permuted_books,
    sample_houses, says, some_stories, torn_samples,
)

FACTS = (("wore", ADA, BOB), ("hung", ("out", ADA), 1, (BOB, CLEO)), ("wore", ADA, BOB))
STRANGE = ("chose", "zoe", 1)
WRONG = (
    STRANGE, ("chose", ADA, -1), ("chose", ADA, True), ("before", ("in", ADA), ("in", ADA)), (), ("wore", ADA),
    ("after", ("in", ADA), 1, (("in", ADA),)), ("away", ("in", "zoe"), 1, (ADA,)), ("bare", ("in", ADA), 1, (BOB, BOB)),
)


class Making(PromiseCase):
    def test_fields(self):
        for kind in (tuple, listed):
            torn = Torn(TURNED, kind(FACTS))
            self.assertEqual(torn.house, TURNED)
            self.same(torn.facts, FACTS)
        self.same(Torn(TURNED).facts, ())
        self.same(Torn(TURNED, []).facts, ())

    def test_told(self):
        torn = Torn(TURNED, FACTS)
        for fact in (("chose", BOB, 2), ["before", ["in", ADA], ["in", BOB]], FACTS[0]):
            told = torn.told(fact)
            self.assertIsInstance(told, Torn)
            self.assertEqual(told.house, TURNED)
            self.same(told.facts, FACTS + (tuple([tuple(item) if isinstance(item, list) else item for item in fact]),))
        self.same(torn.facts, FACTS)

    def test_twenty_facts(self):
        torn = Torn(TURNED, FACTS * 6)
        self.same(torn.told(FACTS[1]).told(FACTS[1]).facts, FACTS * 6 + (FACTS[1], FACTS[1]))
        self.assertEqual(len(book_story(torn, TURNED_BOOK)), 18)

    def test_bad_facts(self):
        for wrong in WRONG:
            for place in range(len(FACTS) + 1):
                facts = FACTS[:place] + (wrong,) + FACTS[place:] + (STRANGE, ())
                for passed in (facts, listed(facts)):
                    self.same(self.refused(BadFact, Torn, TURNED, passed).fact, wrong)
            torn = Torn(TURNED, FACTS)
            self.same(self.refused(BadFact, torn.told, wrong).fact, wrong)
            self.same(self.refused(BadFact, torn.told, listed(wrong)).fact, wrong)
            self.same(torn.facts, FACTS)

    def test_a_later_change_to_the_facts_changes_nothing(self):
        facts = listed(FACTS)
        torn = Torn(TURNED, facts)
        self.assertEqual(facts, listed(FACTS))
        facts[1][3].clear()
        facts.clear()
        self.same(torn.facts, FACTS)
        fact = ["bare", ["in", BOB], 1, [BOB]]
        told = torn.told(fact)
        fact[3].clear()
        self.same(told.facts[-1], ("bare", ("in", BOB), 1, (BOB,)))


class Fitting(PromiseCase):
    def fits(self, torn, steps, due):
        self.same(torn_fits(torn, steps), due)
        self.same(torn_fits(torn, listed(steps)), due)

    def test_evenings_of_all_books(self):
        for house, _ in sample_houses():
            for book in permuted_books(house):
                for evening in evenings(house, book):
                    self.fits(Torn(house), evening, True)

    def test_facts_about_comings(self):
        torn = Torn(House(GUESTS), [("before", ("in", CLEO), ("in", ADA))])
        for book in permutations(GUESTS):
            for evening in evenings(torn.house, book):
                self.fits(torn, evening, book.index(CLEO) < book.index(ADA))

    def test_every_fact_must_hold(self):
        answers = []
        for torn, _ in torn_samples(6):
            for book in permuted_books(torn.house):
                for evening in list(evenings(torn.house, book))[:12]:
                    due = all(says(torn.house, evening, fact) for fact in torn.facts)
                    self.fits(torn, evening, due)
                    answers.append(due)
        self.assertGreater(min(answers.count(True), answers.count(False)), 100)

    def test_steps_whose_comings_are_no_book(self):
        torn = Torn(TURNED)
        comings = tuple([("in", guest) for guest in GUESTS])
        for steps in ((), comings[:2], comings[:2] * 2, comings + comings[:1], (("in", "zoe"),) + comings[1:],
                      comings + (("in", "zoe"),), TURNED_EVENING[1:], TURNED_EVENING + TURNED_EVENING[:1],
                      (("in", ADA), ("in", BOB), ("in", BOB), ("out", ADA, BOB)), (("out", ADA, ADA),),
                      TURNED_EVENING + (("in", "zoe"), ("out", "zoe", "zoe")), (("in", ""),) * 50):
            self.fits(torn, steps, False)

    def test_steps_that_are_no_evening(self):
        torn = Torn(TURNED)
        self.fits(torn, TURNED_EVENING, True)
        for place in range(len(TURNED_EVENING)):
            self.fits(torn, TURNED_EVENING[:place] + TURNED_EVENING[place + 1:], False)
        for place, step in enumerate(TURNED_EVENING):
            for other in (("out", "zoe", ADA), ("out", ADA, "zoe"), ("out", BOB, BOB), ("out", CLEO, BOB)):
                if step != other:
                    self.fits(torn, TURNED_EVENING[:place] + (other,) + TURNED_EVENING[place + 1:], False)
        self.fits(torn, TURNED_EVENING + TURNED_EVENING[-1:], False)
        self.fits(torn, TURNED_EVENING[::-1], False)
        self.fits(Torn(TURNED.with_pegs(1)), TURNED_EVENING, False)
        self.fits(Torn(TURNED, [("spared", ADA, BOB)]), TURNED_EVENING, False)


class Stories(PromiseCase):
    def test_torn_of(self):
        story = Story(TURNED, (CLEO, ADA, BOB), FACTS)
        torn = torn_of(story)
        self.assertIsInstance(torn, Torn)
        self.assertEqual(torn.house, TURNED)
        self.same(torn.facts, (
            ("before", ("in", CLEO), ("in", ADA)), ("before", ("in", ADA), ("in", BOB)),
        ) + FACTS)
        self.same(torn_of(Story(House([ADA]), [ADA])).facts, ())
        self.same(torn_of(Story(House([ADA]), [ADA], [("chose", ADA, 1)])).facts, (("chose", ADA, 1),))
        nine = crowd(9)
        self.same(torn_of(Story(nine, nine.guests, FACTS[:0])).facts,
                  tuple([("before", ("in", one), ("in", two)) for one, two in zip(nine.guests, nine.guests[1:])]))

    def test_the_same_evenings_fit(self):
        for story, _ in some_stories(5):
            torn = torn_of(story)
            for book in permuted_books(story.house):
                for evening in evenings(story.house, book):
                    self.assertIs(torn_fits(torn, evening), fits(story, evening))

    def test_book_story(self):
        for book in (TURNED_BOOK, list(TURNED_BOOK)):
            story = book_story(Torn(TURNED, FACTS), book)
            self.assertEqual(story, Story(TURNED, TURNED_BOOK, FACTS))
            self.same((story.book, story.facts), (TURNED_BOOK, FACTS))

    def test_an_evening_fits_if_it_fits_the_story_of_its_own_book(self):
        for torn, _ in torn_samples(3):
            for one, two in product(permuted_books(torn.house), permuted_books(torn.house)):
                story = book_story(torn, one)
                for evening in list(evenings(torn.house, two))[:5]:
                    self.assertIs(fits(story, evening), one == two and torn_fits(torn, evening))

    def test_bad_books(self):
        for torn in (Torn(TURNED), Torn(TURNED, FACTS)):
            for book in ((), (ADA, BOB), (ADA, BOB, BOB), (ADA, BOB, "zoe"), (ADA, BOB, CLEO, CLEO)):
                self.refused(BadBook, book_story, torn, book)
                self.refused(BadBook, book_story, torn, list(book))
