"""Point 9: books and events."""

from leavetaking.books import events_of, is_book
from leavetaking.houses import House

from tests.helpers import ADA, BOB, CLEO, GUESTS, PromiseCase, crowd, permuted_books


class Books(PromiseCase):
    def test_each_order_of_the_guests_is_a_book(self):
        house = House(GUESTS, brings=[BOB, CLEO, ADA])
        for book in permuted_books(house):
            self.assertIs(is_book(house, book), True)
            self.assertIs(is_book(house, list(book)), True)

    def test_books_of_one_guest_and_of_thirty(self):
        self.assertIs(is_book(House([ADA]), [ADA]), True)
        house = crowd(30)
        self.assertIs(is_book(house, house.guests[::-1]), True)
        self.assertIs(is_book(house, house.guests[1:]), False)

    def test_what_is_no_book(self):
        house = House(GUESTS)
        for value in ([], [ADA], [ADA, BOB], [ADA, BOB, BOB], [ADA, BOB, CLEO, CLEO], [ADA, BOB, "zoe"],
                      [ADA, BOB, CLEO, "zoe"], [ADA, BOB, ""], ["Ada", BOB, CLEO], [ADA, ADA, BOB, CLEO]):
            self.assertIs(is_book(house, value), False, value)
            self.assertIs(is_book(house, tuple(value)), False, value)

    def test_events_in_order(self):
        self.same(events_of(House([CLEO, ADA])), (("in", CLEO), ("in", ADA), ("out", CLEO), ("out", ADA)))
        self.same(events_of(House([ADA])), (("in", ADA), ("out", ADA)))
        self.assertEqual(len(events_of(crowd(30))), 60)
