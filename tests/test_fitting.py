"""Points 19 and 21: whether evenings fit a story."""

from leavetaking.errors import OtherBook
from leavetaking.fitting import fits, misfit
from leavetaking.stories import Story

from tests.helpers import (
    ADA, BOB, CLEO, PromiseCase, TURNED, TURNED_BOOK, TURNED_EVENING, all_facts, listed, permuted_books,
    plain_evenings, sample_houses, says,
)

HOLDS = (("wore", ADA, BOB), ("before", ("out", CLEO), ("out", ADA)), ("settled", BOB, 1))
FAILS = (("spared", ADA, BOB), ("hung", ("in", BOB), 1, (CLEO,)), ("chose", BOB, 1))


class Misfit(PromiseCase):
    def check(self, facts, index):
        story = Story(TURNED, TURNED_BOOK, facts)
        self.same(misfit(story, TURNED_EVENING), index)
        self.same(misfit(story, listed(TURNED_EVENING)), index)
        self.assertIs(fits(story, TURNED_EVENING), index is None)
        self.assertIs(fits(story, listed(TURNED_EVENING)), index is None)

    def test_all_facts_hold(self):
        self.check((), None)
        self.check(HOLDS, None)
        self.check(HOLDS + HOLDS, None)

    def test_the_first_fact_that_does_not_hold(self):
        for fact in FAILS:
            self.check((fact,), 0)
            self.check((fact,) + HOLDS, 0)
            self.check(HOLDS[:1] + (fact,) + HOLDS, 1)
            self.check(HOLDS + (fact,), 3)
            self.check(HOLDS + (fact, fact) + FAILS, 3)

    def test_an_evening_of_another_book(self):
        for book in permuted_books(TURNED):
            if book != TURNED_BOOK:
                for facts in ((), HOLDS, FAILS):
                    story = Story(TURNED, book, facts)
                    self.refused(OtherBook, misfit, story, TURNED_EVENING)
                    self.refused(OtherBook, misfit, story, listed(TURNED_EVENING))
                    self.assertIs(fits(story, TURNED_EVENING), False)


class Fits(PromiseCase):
    def test_steps_that_are_no_evening(self):
        story = Story(TURNED, TURNED_BOOK)
        wrong = [TURNED_EVENING[:many] for many in range(6)]
        wrong.append(TURNED_EVENING + (("in", BOB),))
        wrong.append(TURNED_EVENING + TURNED_EVENING[-1:])
        wrong.append((("in", "zoe"),) + TURNED_EVENING[1:])
        wrong.append(TURNED_EVENING[:-1] + (("out", ADA, ADA),))
        wrong.append(TURNED_EVENING[:-1] + (("out", "zoe", "yan"),))
        wrong.append(TURNED_EVENING[::-1])
        for steps in wrong:
            self.assertIs(fits(story, steps), False)
            self.assertIs(fits(story.told(HOLDS[0]), listed(steps)), False)

    def test_an_evening_of_the_book_that_the_house_does_not_let(self):
        self.assertIs(fits(Story(TURNED.choosing(BOB, 1), TURNED_BOOK), TURNED_EVENING), False)
        self.assertIs(fits(Story(TURNED.with_pegs(1), TURNED_BOOK), TURNED_EVENING), False)
        self.assertIs(fits(Story(TURNED.with_pegs(2), TURNED_BOOK), TURNED_EVENING), True)

    def test_all_evenings_of_small_houses(self):
        for house, book in sample_houses():
            if len(house) < 3:
                for fact in all_facts(house):
                    story = Story(house, book, [fact])
                    for evening in plain_evenings(house, book):
                        due = says(house, evening, fact)
                        self.assertIs(fits(story, evening), due)
                        self.same(misfit(story, evening), None if due else 0)
