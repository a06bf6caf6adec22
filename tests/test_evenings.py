"""Points 12 to 14: evenings and what can be read off them."""

from itertools import islice

from leavetaking.errors import BadBook, BadStep
from leavetaking.evenings import book_of, evenings, is_evening, place_of, row_of, walk, wearing_of
from leavetaking.houses import House

from tests.helpers import (
    ADA, BOB, CLEO, PromiseCase, TURNED, TURNED_BOOK, TURNED_EVENING, TURNED_WEARING, crowd, listed,
    permuted_books, plain_evenings, sample_houses,
)

BAD_BOOKS = ([], [ADA, BOB], [ADA, BOB, BOB], [ADA, BOB, "zoe"], [ADA, BOB, CLEO, CLEO])


class Walking(PromiseCase):
    def test_the_standings_of_a_whole_evening(self):
        self.same(walk(TURNED, TURNED_BOOK, TURNED_EVENING), (
            (0, ()),
            (1, ()),
            (2, ()),
            (2, ((BOB, CLEO),)),
            (3, ((BOB, CLEO),)),
            (3, ((BOB, CLEO), (CLEO, ADA))),
            (3, ((ADA, BOB), (BOB, CLEO), (CLEO, ADA))),
        ))

    def test_no_steps(self):
        self.same(walk(TURNED, TURNED_BOOK, ()), ((0, ()),))
        self.same(walk(TURNED, TURNED_BOOK, []), ((0, ()),))
        self.assertIs(is_evening(TURNED, TURNED_BOOK, ()), False)

    def test_beginnings_of_an_evening(self):
        standings = walk(TURNED, TURNED_BOOK, TURNED_EVENING)
        for many in range(len(TURNED_EVENING)):
            self.same(walk(TURNED, TURNED_BOOK, TURNED_EVENING[:many]), standings[:many + 1])
            self.assertIs(is_evening(TURNED, TURNED_BOOK, TURNED_EVENING[:many]), False)

    def test_whole_evenings(self):
        self.assertIs(is_evening(TURNED, TURNED_BOOK, TURNED_EVENING), True)
        self.assertIs(is_evening(TURNED, listed(TURNED_BOOK), listed(TURNED_EVENING)), True)
        for house, book in sample_houses():
            for evening in plain_evenings(house, book):
                self.assertIs(is_evening(house, book, evening), True)
                self.assertEqual(len(walk(house, book, evening)), 2 * len(house) + 1)

    def check_bad_step(self, house, book, steps, index):
        self.same(self.refused(BadStep, walk, house, book, steps).index, index)
        self.same(self.refused(BadStep, walk, house, book, listed(steps)).index, index)
        self.assertIs(is_evening(house, book, steps), False)

    def test_the_first_step_is_not_let(self):
        for step in (("in", ADA), ("in", "zoe"), ("out", BOB, CLEO), ("out", "zoe", "zoe")):
            self.check_bad_step(TURNED, TURNED_BOOK, (step,) + TURNED_EVENING[1:], 0)
            self.check_bad_step(TURNED, TURNED_BOOK, (step,), 0)

    def test_a_step_in_the_middle_is_not_let(self):
        for step in (("in", BOB), ("out", BOB, ADA), ("out", CLEO, CLEO), ("out", ADA, CLEO), ("out", "zoe", CLEO)):
            self.check_bad_step(TURNED, TURNED_BOOK, TURNED_EVENING[:2] + (step,) + TURNED_EVENING[3:], 2)
        self.check_bad_step(TURNED, TURNED_BOOK, TURNED_EVENING[:4] + (("out", BOB, BOB),), 4)

    def test_the_first_of_several_steps_that_are_not_let(self):
        self.check_bad_step(TURNED, TURNED_BOOK, TURNED_EVENING[:3] + (("in", "zoe"), ("in", CLEO), ("in", "yan")), 3)

    def test_the_last_step_is_not_let(self):
        for step in (("out", ADA, ADA), ("out", ADA, CLEO), ("out", CLEO, BOB), ("in", CLEO), ("out", ADA, "zoe")):
            self.check_bad_step(TURNED, TURNED_BOOK, TURNED_EVENING[:5] + (step,), 5)

    def test_a_step_behind_the_end(self):
        for step in (("in", BOB), ("out", ADA, BOB), ("out", BOB, BOB), ("in", "zoe")):
            self.check_bad_step(TURNED, TURNED_BOOK, TURNED_EVENING + (step,), 6)

    def test_pegs_and_depths_count_on_the_way(self):
        steps = (("in", ADA), ("in", BOB), ("out", BOB, ADA), ("out", ADA, BOB))
        self.assertIs(is_evening(House([ADA, BOB], pegs=2), [ADA, BOB], steps), True)
        self.check_bad_step(House([ADA, BOB], pegs=1), [ADA, BOB], steps, 1)
        steps = (("in", ADA), ("in", BOB), ("out", BOB, BOB), ("out", ADA, ADA))
        self.check_bad_step(House([ADA, BOB]), [ADA, BOB], steps, 2)
        self.assertIs(is_evening(House([ADA, BOB]).choosing(BOB, 2), [ADA, BOB], steps), True)
        self.check_bad_step(House([ADA, BOB]).choosing(ADA, 2), [ADA, BOB], steps, 2)

    def test_an_evening_of_another_book(self):
        for book in permuted_books(TURNED):
            if book != TURNED_BOOK:
                self.assertIs(is_evening(TURNED, book, TURNED_EVENING), False)

    def test_bad_book_ahead_of_bad_step(self):
        for book in BAD_BOOKS:
            self.refused(BadBook, walk, TURNED, book, (("in", "zoe"),))
            self.refused(BadBook, walk, TURNED, book, ())
            self.refused(BadBook, is_evening, TURNED, book, TURNED_EVENING)

    def test_an_evening_of_thirty_guests(self):
        house = crowd(30)
        steps = tuple([("in", guest) for guest in house] + [("out", guest, guest) for guest in house])
        standings = walk(house, house.guests, steps)
        self.assertEqual(len(standings), 61)
        self.same(standings[32], (30, (("g0", "g0"), ("g1", "g1"))))
        self.assertIs(is_evening(house, house.guests, steps), True)
        self.assertIs(is_evening(house, house.guests, steps + steps[:40]), False)


class Finding(PromiseCase):
    def test_one_guest(self):
        house = House([ADA], pegs=1)
        self.same(list(evenings(house, [ADA])), [(("in", ADA), ("out", ADA, ADA))])

    def test_two_guests(self):
        due = [
            (("in", BOB), ("in", ADA), ("out", ADA, ADA), ("out", BOB, BOB)),
            (("in", BOB), ("in", ADA), ("out", BOB, ADA), ("out", ADA, BOB)),
            (("in", BOB), ("out", BOB, BOB), ("in", ADA), ("out", ADA, ADA)),
        ]
        self.same(list(evenings(House([ADA, BOB]), [BOB, ADA])), due)
        self.same(list(evenings(House([ADA, BOB], pegs=1), [BOB, ADA])), due[2:])

    def test_leavings_by_the_guest_and_then_by_the_cloak(self):
        house = House([BOB, ADA], worth=[0, 0])
        self.same(list(evenings(house, [ADA, BOB])), [
            (("in", ADA), ("in", BOB), ("out", BOB, BOB), ("out", ADA, ADA)),
            (("in", ADA), ("in", BOB), ("out", BOB, ADA), ("out", ADA, BOB)),
            (("in", ADA), ("in", BOB), ("out", ADA, BOB), ("out", BOB, ADA)),
            (("in", ADA), ("in", BOB), ("out", ADA, ADA), ("out", BOB, BOB)),
            (("in", ADA), ("out", ADA, ADA), ("in", BOB), ("out", BOB, BOB)),
        ])

    def test_all_evenings_of_small_houses_in_order_each_once(self):
        for house, book in sample_houses():
            self.same(list(evenings(house, book)), plain_evenings(house, book))

    def test_every_book_of_a_house(self):
        for book in permuted_books(TURNED):
            self.same(list(evenings(TURNED, list(book))), plain_evenings(TURNED, book))

    def test_the_first_few_of_thirty_guests(self):
        house = crowd(30)
        comings = tuple([("in", guest) for guest in house])
        leavings = tuple([("out", guest, guest) for guest in house])
        found = list(islice(evenings(house, house.guests), 3))
        self.same(found[0], comings + leavings)
        self.same(found[1], comings + leavings[:28] + (("out", "g29", "g28"), ("out", "g28", "g29")))
        self.same(found[2], comings + leavings[:27] + (
            ("out", "g28", "g27"), ("out", "g27", "g28"), ("out", "g29", "g29"),
        ))

    def test_bad_book_when_the_first_item_is_asked_for(self):
        for book in BAD_BOOKS:
            found = evenings(TURNED, book)
            with self.assertRaises(BadBook):
                next(found)


class ReadingOff(PromiseCase):
    def test_book_of(self):
        self.same(book_of(TURNED_EVENING), TURNED_BOOK)
        self.same(book_of(listed(TURNED_EVENING)), TURNED_BOOK)
        self.same(book_of([["in", ADA], ["out", ADA, ADA]]), (ADA,))

    def test_place_of(self):
        for place, step in enumerate(TURNED_EVENING):
            self.same(place_of(TURNED_EVENING, step[:2]), place)
            self.same(place_of(listed(TURNED_EVENING), list(step[:2])), place)

    def test_row_of(self):
        self.same(row_of(TURNED_EVENING), ((BOB, CLEO), (CLEO, ADA), (ADA, BOB)))
        self.same(row_of(listed(TURNED_EVENING)), ((BOB, CLEO), (CLEO, ADA), (ADA, BOB)))

    def test_wearing_of(self):
        self.same(wearing_of(TURNED, TURNED_EVENING), TURNED_WEARING)
        self.same(wearing_of(TURNED, listed(TURNED_EVENING)), TURNED_WEARING)

    def test_all_evenings_of_small_houses(self):
        for house, book in sample_houses():
            for evening in plain_evenings(house, book):
                self.same(book_of(evening), book)
                row = row_of(evening)
                self.same([("out", guest, cloak) for guest, cloak in row], [step for step in evening if len(step) == 3])
                self.same(wearing_of(house, evening), tuple([dict(row)[guest] for guest in house.guests]))
                for step in evening:
                    self.assertEqual(evening[place_of(evening, step[:2])], step)
