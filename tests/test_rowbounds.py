"""Points 51 to 53: rows, the bounds of their pairs, and conflicts."""

from itertools import product

from leavetaking.errors import BadBook, BadRow
from leavetaking.evenings import evenings
from leavetaking.houses import House
from leavetaking.rowbounds import is_row, row_bounds, row_conflict

from tests.helpers import (
    ADA, BOB, CLEO, GUESTS, PromiseCase, TURNED, TURNED_BOOK, TURNED_EVENING, crowd, leavings_of, liked_better, listed,
    permuted_books, plain_rows, row_houses, within,
)

BAD_ROWS = (
    (),
    ((ADA, BOB), (BOB, CLEO)),
    ((ADA, BOB), (BOB, CLEO), (ADA, ADA)),
    ((ADA, BOB), (BOB, CLEO), (CLEO, CLEO)),
    ((ADA, BOB), (BOB, CLEO), (CLEO, "zoe")),
    ((ADA, BOB), (BOB, CLEO), ("zoe", ADA)),
    ((ADA, BOB), (BOB, CLEO), (CLEO, ADA), (CLEO, ADA)),
    ((ADA, BOB), (BOB, CLEO), (CLEO, ADA), ("zoe", "zoe")),
    ((ADA, ADA),) * 3,
    ((ADA, BOB), (BOB, CLEO), (CLEO, "Ada")),
    ((ADA, BOB), (BOB, CLEO), (CLEO, "")),
)
BAD_BOOKS = ((), (ADA, BOB), (ADA, BOB, BOB), (ADA, BOB, "zoe"), (ADA, BOB, CLEO, CLEO))
ROW = ((ADA, BOB), (BOB, CLEO), (CLEO, ADA))


def plain_bounds(house, book, row):
    """The bounds of the pairs, read off point 52: every number of guests come is tried."""
    found = []
    for index, (guest, cloak) in enumerate(row):
        bringer = house.guests[house.brings.index(cloak)]
        least = [come for come in range(len(book) + 1) if {guest, bringer} <= set(book[:come])][0]
        taken = [other for _, other in row[:index]]
        most = 0
        for come in range(len(book) + 1):
            hung = [house.brings[house.guests.index(comer)] for comer in book[:come]]
            better = liked_better(house, guest, cloak, [other for other in hung if other not in taken])
            if better < house.depth(guest) and (house.pegs is None or come <= index + house.pegs):
                most = come
        found.append((least, most))
    return tuple(found)


class Rows(PromiseCase):
    def judged(self, house, value, due):
        self.same(is_row(house, value), due)
        self.same(is_row(house, listed(value)), due)

    def test_rows(self):
        self.judged(House(GUESTS), ROW, True)
        self.judged(TURNED, leavings_of(TURNED_EVENING), True)
        self.judged(House([ADA]), ((ADA, ADA),), True)
        for house, _ in row_houses():
            for row in plain_rows(house):
                self.judged(house, row, True)

    def test_what_is_no_row(self):
        for row in BAD_ROWS:
            self.judged(House(GUESTS), row, False)
        self.judged(House([ADA]), (), False)
        self.judged(House([ADA]), ((BOB, BOB),), False)
        self.judged(House([ADA, BOB]), ROW, False)
        self.judged(crowd(4), ROW, False)

    def test_every_row_of_three_names(self):
        pairs = list(product(GUESTS[:2] + ("zoe",), GUESTS[:2]))
        for row in product(pairs, pairs):
            due = {guest for guest, _ in row} == {ADA, BOB} == {cloak for _, cloak in row}
            self.judged(House([ADA, BOB]), row, due)


class Bounds(PromiseCase):
    def test_without_pegs(self):
        house = House(GUESTS)
        self.same(row_bounds(house, GUESTS, ((ADA, ADA), (BOB, BOB), (CLEO, CLEO))), ((1, 3), (2, 3), (3, 3)))
        self.same(row_bounds(house, GUESTS, ((CLEO, CLEO), (BOB, BOB), (ADA, ADA))), ((3, 0), (2, 0), (1, 3)))
        self.same(row_bounds(house, GUESTS, ROW), ((2, 0), (3, 0), (3, 3)))
        self.same(row_bounds(house, (CLEO, BOB, ADA), ROW), ((3, 2), (2, 2), (3, 3)))

    def test_pegs(self):
        house = House(GUESTS, worth=[0, 0, 0])
        row = ((BOB, BOB), (ADA, ADA), (CLEO, CLEO))
        self.same(row_bounds(house, GUESTS, row), ((2, 3), (1, 3), (3, 3)))
        self.same(row_bounds(house.with_pegs(1), GUESTS, row), ((2, 1), (1, 2), (3, 3)))
        self.same(row_bounds(house.with_pegs(2), GUESTS, row), ((2, 2), (1, 3), (3, 3)))
        self.same(row_bounds(house.with_pegs(3), GUESTS, row), ((2, 3), (1, 3), (3, 3)))
        self.same(row_bounds(house.with_pegs(10 ** 30), GUESTS, row), ((2, 3), (1, 3), (3, 3)))
        # What the guest likes better may bound it more than the pegs do.
        self.same(row_bounds(House(GUESTS, pegs=2), GUESTS, row), ((2, 0), (1, 3), (3, 3)))

    def test_depths(self):
        row = ((CLEO, CLEO), (BOB, BOB), (ADA, ADA))
        for depth, due in ((1, 0), (2, 1), (3, 3), (4, 3), (10 ** 30, 3)):
            house = House(GUESTS).choosing(CLEO, depth)
            self.same(row_bounds(house, GUESTS, row), ((3, due), (2, 0), (1, 3)))
        house = House(GUESTS).choosing(CLEO, 2).choosing(BOB, 2)
        self.same(row_bounds(house, (CLEO, BOB, ADA), row), ((1, 2), (2, 3), (3, 3)))

    def test_only_cloaks_that_still_hang_are_liked_better(self):
        row = ((ADA, ADA), (CLEO, CLEO), (BOB, BOB))
        self.same(row_bounds(House(GUESTS), (CLEO, ADA, BOB), row), ((2, 3), (1, 2), (3, 3)))

    def test_brought_cloaks(self):
        # Bob brings ada's cloak, cleo bob's and ada cleo's.
        house = House(GUESTS, brings=(CLEO, ADA, BOB))
        self.same(row_bounds(house, GUESTS, ROW), ((3, 1), (2, 1), (3, 3)))
        self.same(row_bounds(house, (CLEO, BOB, ADA), ROW), ((3, 1), (3, 1), (2, 3)))
        self.same(row_bounds(house, (CLEO, ADA, BOB), ((CLEO, BOB), (ADA, CLEO), (BOB, ADA))),
                  ((1, 2), (2, 2), (3, 3)))

    def test_alike_cloaks_do_not_count(self):
        house = House(GUESTS).liking(CLEO, [7, 7, 7])
        self.same(row_bounds(house, GUESTS, ((CLEO, CLEO), (ADA, ADA), (BOB, BOB))), ((3, 3), (1, 3), (2, 3)))

    def test_every_row_of_small_houses(self):
        for house, book in row_houses():
            for row in plain_rows(house):
                due = plain_bounds(house, book, row)
                self.same(row_bounds(house, book, row), due)
                self.same(row_bounds(house, list(book), listed(row)), due)

    def test_a_great_house(self):
        house = crowd(30).with_pegs(7).choosing("g29", 3)
        row = tuple(zip(house.guests, house.guests[::-1]))
        with within(20):
            self.same(row_bounds(house, house.guests[::-1], row), plain_bounds(house, house.guests[::-1], row))


class Conflicts(PromiseCase):
    def test_no_conflict(self):
        house = House(GUESTS)
        self.assertIsNone(row_conflict(house, GUESTS, ((ADA, ADA), (BOB, BOB), (CLEO, CLEO))))
        self.assertIsNone(row_conflict(TURNED, TURNED_BOOK, leavings_of(TURNED_EVENING)))
        self.assertIsNone(row_conflict(House([ADA], pegs=1), [ADA], [[ADA, ADA]]))

    def test_one_pair_with_itself(self):
        house = House(GUESTS)
        self.same(row_conflict(house, GUESTS, ROW), (0, 0))
        self.same(row_conflict(house, GUESTS, ((ADA, ADA), (CLEO, CLEO), (BOB, BOB))), (1, 1))

    def test_two_pairs(self):
        house = House(GUESTS)
        # For ada's cloak a third guest must have come; then bob's cloak hangs, which cleo likes better.
        self.same(row_conflict(house, (CLEO, BOB, ADA), ((ADA, ADA), (CLEO, CLEO), (BOB, BOB))), (0, 1))
        house = House(GUESTS, worth=[0, 0, 0], pegs=2)
        self.same(row_conflict(house, GUESTS, ((CLEO, ADA), (ADA, CLEO), (BOB, BOB))), (0, 0))
        house = house.liking(BOB, [0, 0, 1])
        self.same(row_bounds(house.with_pegs(None), GUESTS, ((CLEO, ADA), (ADA, BOB), (BOB, CLEO))),
                  ((3, 3), (2, 3), (3, 3)))
        house = House([ADA, BOB, CLEO, "dan"], worth=[0, 0, 0, 0]).liking(BOB, [0, 0, 0, 1])
        row = ((ADA, CLEO), (CLEO, ADA), (BOB, BOB), ("dan", "dan"))
        self.same(row_bounds(house, (BOB, ADA, "dan", CLEO), row), ((4, 4), (4, 4), (1, 2), (3, 4)))
        # Of several with the least `j`, the least `i`.
        self.same(row_conflict(house, (BOB, ADA, "dan", CLEO), row), (0, 2))

    def test_the_least_later_pair(self):
        house = House(GUESTS).liking(BOB, [0, 0, 0])
        row = ((BOB, CLEO), (CLEO, BOB), (ADA, ADA))
        self.same(row_bounds(house, (CLEO, ADA, BOB), row), ((3, 3), (3, 1), (2, 3)))
        self.same(row_conflict(house, (CLEO, ADA, BOB), row), (0, 1))
        row = ((ADA, BOB), (CLEO, CLEO), (BOB, ADA))
        self.same(row_bounds(house, (CLEO, ADA, BOB), row), ((3, 1), (1, 1), (3, 3)))
        self.same(row_conflict(house, (CLEO, ADA, BOB), row), (0, 0))

    def test_every_row_of_small_houses(self):
        found = set()
        for house, _ in row_houses():
            for book in permuted_books(house):
                following = {leavings_of(evening) for evening in evenings(house, book)}
                for row in plain_rows(house):
                    bounds = plain_bounds(house, book, row)
                    pairs = [(i, j) for j in range(len(row)) for i in range(j + 1) if bounds[i][0] > bounds[j][1]]
                    conflict = row_conflict(house, book, row)
                    self.same(conflict, pairs[0] if pairs else None)
                    self.same(row_conflict(house, list(book), listed(row)), conflict)
                    self.assertIs(conflict is None, row in following)
                    found.add(conflict)
        self.assertGreaterEqual(found, {None, (0, 0), (0, 1), (1, 1)})


class Wrong(PromiseCase):
    def test_bad_rows(self):
        for row in BAD_ROWS:
            for call in (row_bounds, row_conflict):
                self.refused(BadRow, call, House(GUESTS), GUESTS, row)
                self.refused(BadRow, call, TURNED, list(TURNED_BOOK), listed(row))

    def test_bad_books_ahead_of_bad_rows(self):
        for book in BAD_BOOKS:
            for row in BAD_ROWS + (ROW,):
                for call in (row_bounds, row_conflict):
                    self.refused(BadBook, call, House(GUESTS), book, row)
                    self.refused(BadBook, call, House(GUESTS), list(book), listed(row))

    def test_no_argument_is_changed(self):
        book, row = list(GUESTS), listed(ROW)
        row_bounds(House(GUESTS), book, row)
        row_conflict(House(GUESTS), book, row)
        is_row(House(GUESTS), row)
        self.assertEqual((book, row), (list(GUESTS), listed(ROW)))
