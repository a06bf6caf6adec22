"""Point 58: the first difference of two books, and the story of a row."""

from leavetaking.casework import first_evening
from leavetaking.errors import BadBook, BadRow
from leavetaking.evenings import evenings
from leavetaking.fitting import fits
from leavetaking.houses import House
from leavetaking.rowcounts import row_evenings
from leavetaking.rows import rows
from leavetaking.rowstories import first_difference, row_story
from leavetaking.stories import Story

from tests.helpers import (
    ADA, BOB, CLEO, GUESTS, PromiseCase, crowd, leavings_of, listed, permuted_books, plain_rows, row_houses, within,
)
from tests.test_rowbounds import BAD_BOOKS, BAD_ROWS, ROW
from tests.test_rows import plain_following


class Difference(PromiseCase):
    def test_first_difference(self):
        house = House([ADA, BOB])
        self.same(first_difference(house, (ADA, BOB), (BOB, ADA)), (((BOB, BOB), (ADA, ADA)), 1))
        self.same(first_difference(house, (BOB, ADA), (ADA, BOB)), (((BOB, BOB), (ADA, ADA)), 0))
        self.assertIsNone(first_difference(House([ADA, BOB], worth=[1, 1]), (BOB, ADA), (ADA, BOB)))
        house = House([ADA, BOB], pegs=1)
        self.same(first_difference(house, (ADA, BOB), (BOB, ADA)), (((ADA, ADA), (BOB, BOB)), 0))
        self.same(first_difference(house, (BOB, ADA), (ADA, BOB)), (((ADA, ADA), (BOB, BOB)), 1))

    def test_the_same_rows(self):
        for house, _ in row_houses():
            for book in permuted_books(house):
                self.assertIsNone(first_difference(house, book, list(book)))
        alike = House(GUESTS, worth=[3, 3, 3])
        for book in permuted_books(alike):
            self.assertIsNone(first_difference(alike, GUESTS, book))
        self.assertIsNone(first_difference(House([ADA]), [ADA], [ADA]))

    def test_all_books_of_small_houses(self):
        found = set()
        for house, _ in row_houses():
            following = {book: set(plain_following(house, book)) for book in permuted_books(house)}
            every = plain_rows(house)
            for one, ones in following.items():
                for two, twos in following.items():
                    only = [(row, 0 if row in ones else 1) for row in every if (row in ones) != (row in twos)]
                    due = only[0] if only else None
                    self.same(first_difference(house, one, two), due)
                    self.same(first_difference(house, list(one), list(two)), due)
                    found.add((one == two, None if due is None else due[1]))
        self.assertEqual(found, {(True, None), (False, None), (False, 0), (False, 1)})

    def test_houses_of_four_and_five(self):
        house = crowd(4).choosing("g1", 2).bringing(["g1", "g0", "g2", "g3"])
        books = [("g0", "g1", "g2", "g3"), ("g3", "g1", "g0", "g2"), ("g0", "g1", "g3", "g2"), ("g1", "g0", "g3", "g2")]
        with within(30):
            for one in books:
                for two in books:
                    ones, twos = list(rows(house, one)), list(rows(house, two))
                    only = [row for row in plain_rows(house) if (row in ones) != (row in twos)]
                    due = (only[0], 0 if only[0] in ones else 1) if only else None
                    self.same(first_difference(house, one, two), due)
        five = crowd(5)
        alike = House(five.guests, worth=[0] * 5).choosing("g3", 4)
        with within(30):
            self.assertIsNone(first_difference(alike, five.guests, five.guests[::-1]))
            one, two = first_difference(alike.with_pegs(4), five.guests, five.guests[::-1])
            self.assertIn(one, list(rows(alike.with_pegs(4), (five.guests, five.guests[::-1])[two])))
            self.assertNotIn(one, list(rows(alike.with_pegs(4), (five.guests, five.guests[::-1])[1 - two])))

    def test_bad_books(self):
        for book in BAD_BOOKS:
            for other in BAD_BOOKS + (GUESTS,):
                self.refused(BadBook, first_difference, House(GUESTS), book, other)
                self.refused(BadBook, first_difference, House(GUESTS), list(other), list(book))


class Stories(PromiseCase):
    def test_facts(self):
        house = House(GUESTS)
        for book, row in (((CLEO, BOB, ADA), ROW), (list(GUESTS), listed(ROW))):
            story = row_story(house, book, row)
            self.assertIsInstance(story, Story)
            self.assertEqual(story.house, house)
            self.same(story.book, tuple(book))
            self.same(story.facts, (
                ("wore", ADA, BOB), ("wore", BOB, CLEO), ("wore", CLEO, ADA),
                ("before", ("out", ADA), ("out", BOB)), ("before", ("out", BOB), ("out", CLEO)),
            ))
        self.same(row_story(house, GUESTS, ((CLEO, CLEO), (ADA, BOB), (BOB, ADA))).facts, (
            ("wore", CLEO, CLEO), ("wore", ADA, BOB), ("wore", BOB, ADA),
            ("before", ("out", CLEO), ("out", ADA)), ("before", ("out", ADA), ("out", BOB)),
        ))
        self.same(row_story(House([ADA]), [ADA], [(ADA, ADA)]).facts, (("wore", ADA, ADA),))

    def test_the_evenings_that_have_the_row(self):
        for house, book in row_houses():
            every = list(evenings(house, book))
            for row in plain_rows(house):
                story = row_story(house, book, row)
                due = [evening for evening in every if leavings_of(evening) == row]
                self.assertEqual([evening for evening in every if fits(story, evening)], due)
                self.assertEqual(first_evening(story) is None, not due)

    def test_thirty_guests(self):
        house = crowd(30)
        own = tuple(zip(house.guests, house.guests))
        with within(20):
            story = row_story(house, house.guests, own)
            self.assertEqual(len(story), 59)
            self.same(story.facts[-1], ("before", ("out", "g28"), ("out", "g29")))
            first = next(row_evenings(house, house.guests, own))
            self.assertIs(fits(story, first), True)
            self.assertIs(fits(row_story(house, house.guests, own[1:] + own[:1]), first), False)
            self.assertIs(fits(row_story(house, house.guests, own[:28] + own[29:] + own[28:29]), first), False)
            self.assertIs(fits(story, first_evening(story)), True)

    def test_wrong_books_and_rows(self):
        for book in BAD_BOOKS:
            for row in BAD_ROWS + (ROW,):
                self.refused(BadBook, row_story, House(GUESTS), list(book), listed(row))
        for row in BAD_ROWS:
            self.refused(BadRow, row_story, House(GUESTS), GUESTS, row)
            self.refused(BadRow, row_story, House(GUESTS), GUESTS, listed(row))

    def test_a_later_change_to_the_row_changes_nothing(self):
        book, row = list(GUESTS), listed(ROW)
        story = row_story(House(GUESTS), book, row)
        self.assertEqual((book, row), (list(GUESTS), listed(ROW)))
        book.clear()
        row[0].clear()
        self.assertEqual(story, row_story(House(GUESTS), GUESTS, ROW))
