"""Point 54: the evenings that have a row."""

from math import comb

from leavetaking.errors import BadBook, BadRow
from leavetaking.evenings import evenings, is_evening
from leavetaking.houses import House
from leavetaking.rowcounts import quick_evening, row_evening_count, row_evenings

from tests.helpers import (
    ADA, BOB, CLEO, GUESTS, PromiseCase, TURNED, TURNED_BOOK, TURNED_EVENING, come_at, crowd, leavings_of, listed,
    permuted_books, plain_rows, row_houses, within,
)
from tests.test_rowbounds import BAD_BOOKS, BAD_ROWS, ROW

ALIKE = House(GUESTS, worth=[0, 0, 0])
OWN = tuple(zip(GUESTS, GUESTS))


def alike_crowd(count):
    """A great house in which all cloaks are alike, and the row in which each guest leaves in its own cloak."""
    house = crowd(count)
    house = House(house.guests, worth=[0] * count)
    return house, tuple(zip(house.guests, house.guests))


class Evenings(PromiseCase):
    def test_in_order(self):
        self.same(tuple(row_evenings(House([ADA, BOB]), [ADA, BOB], [(ADA, ADA), (BOB, BOB)])), (
            (("in", ADA), ("in", BOB), ("out", ADA, ADA), ("out", BOB, BOB)),
            (("in", ADA), ("out", ADA, ADA), ("in", BOB), ("out", BOB, BOB)),
        ))
        numbers = [tuple(come_at(evening, guest) for guest in GUESTS) for evening in row_evenings(ALIKE, GUESTS, OWN)]
        self.assertEqual(numbers, [(3, 3, 3), (2, 3, 3), (2, 2, 3), (1, 3, 3), (1, 2, 3)])

    def test_one_and_none(self):
        self.same(list(row_evenings(House(GUESTS, pegs=1), (CLEO, ADA, BOB), ((CLEO, CLEO), (ADA, ADA), (BOB, BOB)))), [
            (("in", CLEO), ("out", CLEO, CLEO), ("in", ADA), ("out", ADA, ADA), ("in", BOB), ("out", BOB, BOB)),
        ])
        self.same(list(row_evenings(House(GUESTS), GUESTS, ROW)), [])
        self.assertIsNone(quick_evening(House(GUESTS), GUESTS, ROW))
        self.same(row_evening_count(House(GUESTS), GUESTS, ROW), 0)

    def test_all_rows_of_small_houses(self):
        numbers = set()
        for house, first_book in row_houses():
            for book in permuted_books(house) if len(house) < 3 else [first_book, house.guests]:
                every = list(evenings(house, book))
                for row in plain_rows(house):
                    due = [evening for evening in every if leavings_of(evening) == row]
                    self.same(list(row_evenings(house, book, row)), due)
                    self.same(list(row_evenings(house, list(book), listed(row))), due)
                    self.same(row_evening_count(house, book, row), len(due))
                    self.same(row_evening_count(house, list(book), listed(row)), len(due))
                    quick = quick_evening(house, book, row)
                    self.same(quick_evening(house, list(book), listed(row)), quick)
                    numbers.add(len(due))
                    if not due:
                        self.assertIsNone(quick)
                        continue
                    self.assertIn(quick, due)
                    for guest in house:
                        self.assertEqual(come_at(quick, guest), min([come_at(evening, guest) for evening in due]))
        self.assertEqual(numbers, {0, 1, 2, 3, 4, 5})

    def test_a_house_of_four(self):
        house = crowd(4).choosing("g1", 2).choosing("g3", 2).bringing(["g2", "g0", "g3", "g1"]).with_pegs(3)
        book = ("g2", "g3", "g0", "g1")
        found = {}
        for evening in evenings(house, book):
            found.setdefault(leavings_of(evening), []).append(evening)
        self.assertGreater(len(found), 20)
        self.assertGreater(max([len(due) for due in found.values()]), 2)
        for row, due in found.items():
            self.same(list(row_evenings(house, book, row)), due)
            self.same(row_evening_count(house, book, row), len(due))
        others = [row for row in plain_rows(house) if row not in found]
        for row in others:
            self.same((list(row_evenings(house, book, row)), row_evening_count(house, book, row)), ([], 0))

    def test_quick_evening(self):
        self.same(quick_evening(ALIKE, GUESTS, ((BOB, ADA), (ADA, BOB), (CLEO, CLEO))), (
            ("in", ADA), ("in", BOB), ("out", BOB, ADA), ("out", ADA, BOB), ("in", CLEO), ("out", CLEO, CLEO),
        ))
        self.same(quick_evening(TURNED, TURNED_BOOK, leavings_of(TURNED_EVENING)),
                  TURNED_EVENING[:1] + TURNED_EVENING[2:3] + TURNED_EVENING[1:2] + TURNED_EVENING[3:])
        # The second one could leave with one guest come, if the first one had not to wait for all.
        self.same(quick_evening(ALIKE, GUESTS, ((CLEO, CLEO), (ADA, ADA), (BOB, BOB))), (
            ("in", ADA), ("in", BOB), ("in", CLEO), ("out", CLEO, CLEO), ("out", ADA, ADA), ("out", BOB, BOB),
        ))


class Great(PromiseCase):
    def test_thirty_guests(self):
        house, row = alike_crowd(30)
        with within(20):
            # As many as there are ways to set 30 pairs of brackets.
            self.same(row_evening_count(house, house.guests, row), comb(60, 30) // 31)
            self.same(row_evening_count(house.with_pegs(1), house.guests, row), 1)
            self.same(row_evening_count(house.with_pegs(2), house.guests, row), 2 ** 29)
            self.same(row_evening_count(house, house.guests[::-1], row), 1)
            self.same(row_evening_count(crowd(30), house.guests[::-1], row[::-1]), 1)
            self.same(row_evening_count(crowd(30), house.guests, row[::-1]), 0)

    def test_one_after_the_other(self):
        house, row = alike_crowd(30)
        with within(20):
            found = row_evenings(house, house.guests, row)
            first, second, third = next(found), next(found), next(found)
        comings = tuple([("in", guest) for guest in house.guests])
        leavings = tuple([("out", guest, guest) for guest in house.guests])
        self.same(first, comings + leavings)
        self.same(second, comings[:29] + leavings[:1] + comings[29:] + leavings[1:])
        self.same(third, comings[:29] + leavings[:2] + comings[29:] + leavings[2:])
        self.assertIs(is_evening(house, house.guests, third), True)
        with within(20):
            quick = quick_evening(house, house.guests, row)
        self.same(quick, tuple([step for pair in zip(comings, leavings) for step in pair]))

    def test_a_row_with_a_conflict_at_its_end(self):
        house, row = alike_crowd(30)
        house = house.liking("g29", list(range(30, 0, -1)))
        late = row[:28] + row[29:] + row[28:29]
        with within(20):
            self.assertEqual(list(row_evenings(house, house.guests, late)), [])
            self.assertIsNone(quick_evening(house, house.guests, late))
            self.same(row_evening_count(house, house.guests, late), 0)

    def test_two_generators_in_turn(self):
        others = ((BOB, ADA), (ADA, BOB), (CLEO, CLEO))
        due = list(row_evenings(ALIKE, GUESTS, OWN)), list(row_evenings(ALIKE, GUESTS, others))
        one, two = row_evenings(ALIKE, GUESTS, OWN), row_evenings(ALIKE, GUESTS, others)
        found = [], []
        for _ in range(7):
            for at, generator in ((0, one), (1, two)):
                found[at].extend([item for item in [next(generator, None)] if item is not None])
            row_evening_count(ALIKE, GUESTS, others)
        self.assertEqual(found, due)
        self.assertEqual([len(items) for items in due], [5, 3])


class Wrong(PromiseCase):
    def test_bad_rows_and_bad_books(self):
        for row in BAD_ROWS:
            for house, book in ((ALIKE, GUESTS), (TURNED, list(TURNED_BOOK))):
                self.refused(BadRow, row_evening_count, house, book, row)
                self.refused(BadRow, quick_evening, house, book, listed(row))
                self.refused(BadRow, next, row_evenings(house, book, row))
        for book in BAD_BOOKS:
            for row in BAD_ROWS + (ROW,):
                self.refused(BadBook, row_evening_count, ALIKE, book, row)
                self.refused(BadBook, quick_evening, ALIKE, list(book), listed(row))
                self.refused(BadBook, next, row_evenings(ALIKE, book, row))

    def test_errors_and_copies_when_the_first_one_is_asked_for(self):
        book, row = [ADA], []
        found = row_evenings(ALIKE, book, row)
        book.extend([BOB, CLEO])
        row.extend([[ADA, ADA], [BOB, BOB], [CLEO, CLEO]])
        first = next(found)
        row[0].clear()
        row.clear()
        book.clear()
        self.assertEqual([first] + list(found), list(row_evenings(ALIKE, GUESTS, OWN)))

    def test_no_argument_is_changed(self):
        book, row = list(GUESTS), listed(OWN)
        list(row_evenings(ALIKE, book, row))
        row_evening_count(ALIKE, book, row)
        quick_evening(ALIKE, book, row)
        self.assertEqual((book, row), (list(GUESTS), listed(OWN)))
