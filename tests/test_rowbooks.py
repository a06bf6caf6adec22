"""Points 56 and 57: what leavings need, the late evening, and the books that a row follows."""

from itertools import permutations

from leavetaking.errors import BadRow
from leavetaking.evenings import book_of, evenings, is_evening
from leavetaking.houses import House
from leavetaking.rowbooks import books_of, late_evening, latest_book, needs_of

from tests.helpers import (
    ADA, BOB, CLEO, GUESTS, PromiseCase, crowd, leavings_of, listed, permuted_books, plain_rows, row_houses, within,
)
from tests.test_rowbounds import BAD_ROWS, ROW

TURNED = House(GUESTS, brings=(BOB, CLEO, ADA))
OWN = tuple(zip(GUESTS, GUESTS))


def plain_needs(house, row):
    """For each guest the index of the first pair of the row that needs it, read off point 56."""
    bringers = dict(zip(house.brings, house.guests))
    return tuple([[guest in (leaver, bringers[cloak]) for leaver, cloak in row].index(True) for guest in house.guests])


class Needs(PromiseCase):
    def test_needs(self):
        self.same(needs_of(House(GUESTS), OWN), (0, 1, 2))
        self.same(needs_of(House(GUESTS), ((CLEO, BOB), (ADA, CLEO), (BOB, ADA))), (1, 0, 0))
        self.same(needs_of(House(GUESTS), ROW), (0, 0, 1))
        # Cleo brings ada's cloak, ada bob's and bob cleo's.
        self.same(needs_of(TURNED, OWN), (0, 1, 0))
        self.same(needs_of(TURNED, ((BOB, CLEO), (ADA, BOB), (CLEO, ADA))), (1, 0, 2))
        self.same(needs_of(House([ADA]), [[ADA, ADA]]), (0,))

    def test_every_row_of_small_houses(self):
        for house, _ in row_houses():
            for row in plain_rows(house):
                self.same(needs_of(house, row), plain_needs(house, row))
                self.same(needs_of(house, listed(row)), plain_needs(house, row))


class Late(PromiseCase):
    def test_late_evenings(self):
        row = ((CLEO, BOB), (BOB, ADA), (ADA, CLEO))
        house = House(GUESTS).liking(CLEO, [1, 2, 3]).choosing(CLEO, 2)
        self.same(late_evening(house, row), (
            ("in", BOB), ("in", CLEO), ("out", CLEO, BOB), ("in", ADA), ("out", BOB, ADA), ("out", ADA, CLEO),
        ))
        self.same(latest_book(house, row), (BOB, CLEO, ADA))
        self.same(late_evening(house.choosing(CLEO, 1), row), None)
        self.same(latest_book(house.choosing(CLEO, 1), row), None)
        self.same(late_evening(House(GUESTS, pegs=1), OWN), (
            ("in", ADA), ("out", ADA, ADA), ("in", BOB), ("out", BOB, BOB), ("in", CLEO), ("out", CLEO, CLEO),
        ))

    def test_pegs(self):
        row = ((ADA, CLEO), (CLEO, ADA), (BOB, BOB))
        house = House(GUESTS, worth=[1, 1, 1])
        self.same(late_evening(house.with_pegs(2), row), (
            ("in", ADA), ("in", CLEO), ("out", ADA, CLEO), ("out", CLEO, ADA), ("in", BOB), ("out", BOB, BOB),
        ))
        self.same((late_evening(house.with_pegs(1), row), latest_book(house.with_pegs(1), row)), (None, None))
        self.same(list(books_of(house.with_pegs(1), row)), [])
        self.same(list(books_of(house.with_pegs(2), row)), [(ADA, CLEO, BOB), (CLEO, ADA, BOB)])

    def test_every_row_of_small_houses(self):
        followed = 0
        for house, _ in row_houses():
            every = {book: list(evenings(house, book)) for book in permuted_books(house)}
            for row in plain_rows(house):
                having = [evening for found in every.values() for evening in found if leavings_of(evening) == row]
                late = late_evening(house, row)
                self.same(late_evening(house, listed(row)), late)
                self.same(latest_book(house, listed(row)), None if late is None else book_of(late))
                self.same(latest_book(house, row), None if late is None else book_of(late))
                self.assertIs(late is None, not having)
                if having:
                    followed += 1
                    self.check_late(house, row, late, having)
        self.assertGreater(followed, 100)

    def check_late(self, house, row, late, having):
        """Each guest comes as late as in any of the evenings; those for the same pair come in house order."""
        self.assertIn(late, having)
        needs = plain_needs(house, row)
        due = []
        for index, (guest, cloak) in enumerate(row):
            due.extend([("in", comer) for comer, need in zip(house.guests, needs) if need == index])
            due.append(("out", guest, cloak))
        self.same(late, tuple(due))
        for evening in having:
            for guest in house:
                gone = [len(leavings_of(steps[:steps.index(("in", guest))])) for steps in (late, evening)]
                self.assertGreaterEqual(gone[0], gone[1])

    def test_a_great_house(self):
        house = crowd(30)
        alike = House(house.guests, worth=[0] * 30)
        row = tuple(zip(house.guests[::-1], house.guests))
        with within(20):
            self.same(needs_of(alike, row), tuple(list(range(15)) + list(range(14, -1, -1))))
            late = late_evening(alike, row)
            self.same(latest_book(alike, row)[:4], ("g0", "g29", "g1", "g28"))
            self.assertIs(is_evening(alike, book_of(late), late), True)
            self.assertEqual(leavings_of(late), row)
            own = tuple(zip(house.guests, house.guests))
            self.same(latest_book(house, own), house.guests)
            self.same(latest_book(house, own[::-1]), house.guests[::-1])


class Books(PromiseCase):
    def test_books_in_ascending_order(self):
        house = House([CLEO, ADA, BOB], worth=[1, 1, 1])
        self.same(list(books_of(house, OWN)), list(permutations((CLEO, ADA, BOB))))
        house = House([CLEO, ADA, BOB])
        # Whoever takes its own cloak ahead of a better one, has to leave before that comes.
        self.same(list(books_of(house, ((BOB, BOB), (ADA, ADA), (CLEO, CLEO)))), [(BOB, ADA, CLEO)])
        self.same(list(books_of(house, ((BOB, CLEO), (CLEO, BOB), (ADA, ADA)))), [(CLEO, BOB, ADA), (BOB, CLEO, ADA)])
        self.same(list(books_of(house, ((BOB, BOB), (CLEO, ADA), (ADA, CLEO)))), [])

    def test_all_evenings_of_small_houses(self):
        for house, _ in row_houses():
            following = {book: {leavings_of(evening) for evening in evenings(house, book)}
                         for book in permuted_books(house)}
            for row in plain_rows(house):
                due = [book for book, found in following.items() if row in found]
                self.same(list(books_of(house, row)), due)
                self.same(list(books_of(house, listed(row))), due)
                if due:
                    self.assertIn(latest_book(house, row), due)

    def test_six_guests(self):
        house = crowd(6)
        own = tuple(zip(house.guests, house.guests))
        with within(30):
            alike = House(house.guests, worth=[0] * 6)
            self.same(list(books_of(alike, own)), list(permutations(house.guests)))
            self.same(list(books_of(house.with_pegs(1), own[::-1])), [house.guests[::-1]])
            # Whoever takes a better cloak than its own waits for the bringer, as long as there are pegs.
            row = (("g3", "g0"), ("g4", "g1"), ("g5", "g2"), ("g0", "g3"), ("g1", "g4"), ("g2", "g5"))
            found = list(books_of(house.with_pegs(4), row))
        self.same(found, [book for book in permutations(house.guests)
                          if {"g0", "g3"} <= set(book[:4]) and {"g1", "g4"} <= set(book[:5])])

    def test_two_generators_in_turn(self):
        house = House(GUESTS, worth=[1, 1, 1])
        others = ((CLEO, BOB), (BOB, CLEO), (ADA, ADA))
        one, two = books_of(house, OWN), books_of(House(GUESTS), others)
        found = [], []
        for _ in range(8):
            for at, generator in ((0, one), (1, two)):
                found[at].extend([item for item in [next(generator, None)] if item is not None])
            needs_of(house, others)
        self.assertEqual(found, (list(permutations(GUESTS)), list(books_of(House(GUESTS), others))))
        self.assertEqual(len(found[1]), 2)

    def test_bad_rows(self):
        for row in BAD_ROWS:
            for house in (House(GUESTS), TURNED):
                for call in (needs_of, late_evening, latest_book):
                    self.refused(BadRow, call, house, row)
                    self.refused(BadRow, call, house, listed(row))
                self.refused(BadRow, next, books_of(house, row))

    def test_errors_and_copies_when_the_first_one_is_asked_for(self):
        row = []
        found = books_of(House(GUESTS, worth=[1, 1, 1]), row)
        row.extend([[ADA, ADA], [BOB, BOB], [CLEO, CLEO]])
        first = next(found)
        row[0].clear()
        row.clear()
        self.assertEqual([first] + list(found), list(permutations(GUESTS)))

    def test_no_argument_is_changed(self):
        row = listed(ROW)
        for call in (needs_of, late_evening, latest_book):
            call(TURNED, row)
        list(books_of(TURNED, row))
        self.assertEqual(row, listed(ROW))
