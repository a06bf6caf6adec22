"""Point 55: all rows that follow a book."""

from itertools import permutations

from leavetaking.errors import BadBook
from leavetaking.evenings import evenings
from leavetaking.houses import House
from leavetaking.rows import next_pairs, row_count, rows

from tests.helpers import (
    ADA, BOB, CLEO, GUESTS, PromiseCase, crowd, leavings_of, listed, permuted_books, row_houses, row_order, within,
)
from tests.test_rowbounds import BAD_BOOKS

PAIR = House([ADA, BOB])


def plain_following(house, book):
    """All rows that follow the book, in order, read off all its evenings."""
    found = {leavings_of(evening) for evening in evenings(house, book)}
    return sorted(found, key=lambda row: row_order(house, row))


def beginnings(house):
    """All sequences of pairs of different guests and of different cloaks of the house, as in point 55."""
    for many in range(len(house) + 1):
        for guests in permutations(house.guests, many):
            for cloaks in permutations(house.guests, many):
                yield tuple(zip(guests, cloaks))


class Rows(PromiseCase):
    def check(self, house, book):
        due = plain_following(house, book)
        self.same(list(rows(house, book)), due)
        self.same(list(rows(house, list(book))), due)
        self.same(row_count(house, book), len(due))
        self.same(row_count(house, list(book)), len(due))
        return due

    def test_rows_in_order(self):
        self.same(list(rows(PAIR, (ADA, BOB))), [((ADA, ADA), (BOB, BOB)), ((BOB, ADA), (ADA, BOB))])
        self.same(list(rows(House([BOB, ADA]), (ADA, BOB))), [
            ((BOB, BOB), (ADA, ADA)), ((ADA, BOB), (BOB, ADA)), ((ADA, ADA), (BOB, BOB)),
        ])
        self.same(list(rows(House(GUESTS, pegs=1), (CLEO, ADA, BOB))), [((CLEO, CLEO), (ADA, ADA), (BOB, BOB))])
        self.same(list(rows(House([ADA]), [ADA])), [((ADA, ADA),)])
        self.same([row_count(PAIR, (ADA, BOB)), row_count(House([ADA]), [ADA])], [2, 1])

    def test_all_evenings_of_small_houses(self):
        counts = set()
        for house, _ in row_houses():
            for book in permuted_books(house):
                counts.add(len(self.check(house, book)))
        self.assertGreater(len(counts), 8)
        self.assertEqual(max(counts), 36)

    def test_houses_of_four(self):
        house = crowd(4)
        book = ("g2", "g0", "g3", "g1")
        self.check(house, book)
        self.check(house.choosing("g2", 2).with_pegs(2), book)
        self.check(house.bringing(book).liking("g0", [1, 3, 3, 2]).with_pegs(3), book)

    def test_five_guests(self):
        house = crowd(5)
        alike = House(house.guests, worth=[0] * 5)
        with within(30):
            for each in (house, house.with_pegs(2), house.choosing("g3", 2), alike.with_pegs(3),
                         alike.choosing("g4", 2)):
                for book in (house.guests, house.guests[::-1], ("g2", "g4", "g0", "g3", "g1")):
                    self.same(row_count(each, book), len(list(rows(each, book))))
            # Whoever has come can leave in whatever has come, and all may have come before anybody leaves.
            self.same(row_count(alike, house.guests), 120 * 120)
            self.same(row_count(alike.with_pegs(1), house.guests), 1)

    def test_one_after_the_other(self):
        house = crowd(30)
        alike = House(house.guests, worth=[0] * 30)
        with within(20):
            found = rows(alike, house.guests)
            first, second = next(found), next(found)
        own = tuple(zip(house.guests, house.guests))
        self.same(first, own)
        self.same(second, own[:28] + (("g28", "g29"), ("g29", "g28")))
        with within(20):
            self.same(list(rows(house.with_pegs(1), house.guests)), [own])

    def test_two_generators_in_turn(self):
        house = House(GUESTS)
        one, two = rows(house, GUESTS), rows(house, (CLEO, BOB, ADA))
        found = [], []
        for _ in range(40):
            for at, generator in ((0, one), (1, two)):
                found[at].extend([item for item in [next(generator, None)] if item is not None])
            next_pairs(house, GUESTS, ())
        self.assertEqual(found, (plain_following(house, GUESTS), plain_following(house, (CLEO, BOB, ADA))))

    def test_bad_books(self):
        for book in BAD_BOOKS:
            self.refused(BadBook, next, rows(House(GUESTS), book))
            self.refused(BadBook, row_count, House(GUESTS), book)
            for beginning in ((), ((ADA, ADA),)):
                self.refused(BadBook, next_pairs, House(GUESTS), list(book), beginning)

    def test_errors_and_copies_when_the_first_one_is_asked_for(self):
        book = [ADA]
        found = rows(House(GUESTS), book)
        book.extend([BOB, CLEO])
        first = next(found)
        book.clear()
        self.assertEqual([first] + list(found), plain_following(House(GUESTS), GUESTS))


class Next(PromiseCase):
    def test_the_empty_beginning(self):
        self.same(next_pairs(PAIR, (ADA, BOB), ()), ((ADA, ADA), (BOB, ADA)))
        self.same(next_pairs(PAIR, (ADA, BOB), []), ((ADA, ADA), (BOB, ADA)))
        self.same(next_pairs(House([BOB, ADA], worth=[1, 1]), (ADA, BOB), ()),
                  ((BOB, BOB), (BOB, ADA), (ADA, BOB), (ADA, ADA)))

    def test_a_whole_row(self):
        self.same(next_pairs(PAIR, (ADA, BOB), ((ADA, ADA), (BOB, BOB))), ())
        self.same(next_pairs(PAIR, (ADA, BOB), [[BOB, ADA], [ADA, BOB]]), ())

    def test_what_is_no_beginning(self):
        for beginning in (((BOB, BOB),), ((BOB, BOB), (ADA, ADA)), ((ADA, BOB), (BOB, ADA)), ((ADA, BOB),)):
            self.assertIsNone(next_pairs(PAIR, (ADA, BOB), beginning))
            self.assertIsNone(next_pairs(PAIR, (ADA, BOB), listed(beginning)))
        # The second pair could stand at the beginning, but not behind the first one.
        house = House(GUESTS, worth=[0, 0, 0]).liking(BOB, [0, 0, 1])
        self.same(next_pairs(house, (BOB, ADA, CLEO), ((CLEO, ADA),)), ((ADA, BOB), (ADA, CLEO), (BOB, CLEO)))
        self.assertIsNone(next_pairs(house, (BOB, ADA, CLEO), ((CLEO, ADA), (BOB, BOB))))
        self.assertIn((BOB, BOB), next_pairs(house, (BOB, ADA, CLEO), ()))

    def test_every_beginning_of_small_houses(self):
        for house, first_book in row_houses():
            for book in (first_book, house.guests):
                following = plain_following(house, book)
                for beginning in beginnings(house):
                    many = len(beginning)
                    going_on = [row for row in following if row[:many] == beginning]
                    due = []
                    for row in going_on:
                        due.extend([pair for pair in row[many:many + 1] if pair not in due])
                    due = tuple(due) if going_on else None
                    self.same(next_pairs(house, book, beginning), due)
                    self.same(next_pairs(house, list(book), listed(beginning)), due)

    def test_thirty_guests(self):
        house = crowd(30)
        alike = House(house.guests, worth=[0] * 30)
        with within(20):
            self.same(next_pairs(house, house.guests, ()), tuple([(guest, "g0") for guest in house.guests]))
            self.assertEqual(len(next_pairs(alike, house.guests, ())), 900)
            half = tuple(zip(house.guests[::2], house.guests[1::2]))
            self.assertEqual(len(next_pairs(alike, house.guests, half)), 225)
            own = tuple(zip(house.guests, house.guests))
            self.same(next_pairs(house, house.guests, own[:29]), own[29:])
            self.same(next_pairs(house, house.guests, own), ())
            self.assertIsNone(next_pairs(house, house.guests, own[1:]))

    def test_no_argument_is_changed(self):
        book, beginning = [ADA, BOB], [[ADA, ADA]]
        next_pairs(PAIR, book, beginning)
        row_count(PAIR, book)
        list(rows(PAIR, book))
        self.assertEqual((book, beginning), ([ADA, BOB], [[ADA, ADA]]))
