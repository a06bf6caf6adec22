"""Points 15 and 17: whether facts hold."""

from itertools import combinations

from leavetaking.facts import contrary
from leavetaking.houses import House
from leavetaking.meanings import holds

from tests.helpers import (
    ADA, BOB, CLEO, GUESTS, PromiseCase, TURNED, TURNED_BOOK, TURNED_EVENING, all_facts, listed, lots_from,
    permuted_books, plain_evenings, plain_events, sample_houses, says,
)

# For each event of the turned evening: what hung, who was in the room, and what had happened, at the event.
AT = {
    ("in", BOB): ((), (), ()),
    ("in", ADA): ((CLEO,), (BOB,), (("in", BOB),)),
    ("out", BOB): ((BOB, CLEO), (ADA, BOB), (("in", BOB), ("in", ADA))),
    ("in", CLEO): ((BOB,), (ADA,), (("in", BOB), ("in", ADA), ("out", BOB))),
    ("out", CLEO): ((ADA, BOB), (ADA, CLEO), (("in", BOB), ("in", ADA), ("out", BOB), ("in", CLEO))),
    ("out", ADA): ((BOB,), (ADA,), (("in", BOB), ("in", ADA), ("out", BOB), ("in", CLEO), ("out", CLEO))),
}


class TurnedEvening(PromiseCase):
    def check(self, fact, due):
        self.assertIs(holds(TURNED, TURNED_EVENING, fact), due, fact)
        self.assertIs(holds(TURNED, listed(TURNED_EVENING), listed(fact)), due, fact)

    def check_both(self, one, two, due):
        self.check(one, due)
        self.check(two, not due)

    def test_wore_and_spared(self):
        worn = {ADA: BOB, BOB: CLEO, CLEO: ADA}
        for guest in GUESTS:
            for cloak in GUESTS:
                self.check_both(("wore", guest, cloak), ("spared", guest, cloak), worn[guest] == cloak)

    def test_before(self):
        events = [step[:2] for step in TURNED_EVENING]
        for one, two in combinations(events, 2):
            self.check_both(("before", one, two), ("before", two, one), True)

    def test_at_each_event(self):
        for event, (hung, room, earlier) in AT.items():
            for lot in lots_from(GUESTS):
                hanging = len([cloak for cloak in lot if cloak in hung])
                present = len([guest for guest in lot if guest in room])
                for count in range(6):
                    self.check_both(("hung", event, count, lot), ("bare", event, count, lot), hanging >= count)
                    self.check_both(("there", event, count, lot), ("away", event, count, lot), present >= count)
            for lot in lots_from([other for other in AT if other != event]):
                happened = len([other for other in lot if other in earlier])
                for count in range(7):
                    self.check_both(("after", event, count, lot), ("ahead", event, count, lot), happened >= count)

    def test_counts_of_0_and_empty_tuples(self):
        for event in AT:
            for one, two in (("hung", "bare"), ("there", "away"), ("after", "ahead")):
                self.check_both((one, event, 0, ()), (two, event, 0, ()), True)
                self.check_both((one, event, 1, ()), (two, event, 1, ()), False)
                self.check_both((one, event, 40, ()), (two, event, 40, ()), False)

    def test_the_order_of_the_items_does_not_matter(self):
        self.check(("hung", ("out", CLEO), 2, (CLEO, BOB, ADA)), True)
        self.check(("there", ("out", CLEO), 2, (CLEO, BOB, ADA)), True)
        self.check(("after", ("out", CLEO), 2, (("out", BOB), ("out", ADA), ("in", BOB))), True)

    def test_at_the_own_coming_and_at_the_own_leaving(self):
        for guest, brought, taken in ((ADA, BOB, BOB), (BOB, CLEO, CLEO), (CLEO, ADA, ADA)):
            self.check(("there", ("in", guest), 1, (guest,)), False)
            self.check(("hung", ("in", guest), 1, (brought,)), False)
            self.check(("there", ("out", guest), 1, (guest,)), True)
            self.check(("hung", ("out", guest), 1, (taken,)), True)

    def test_chose_and_settled(self):
        for guest, better in ((ADA, 0), (BOB, 1), (CLEO, 0)):
            for depth in range(4):
                self.check_both(("chose", guest, depth), ("settled", guest, depth), better < depth)


class OtherEvenings(PromiseCase):
    def test_two_cloaks_that_are_liked_better_hung(self):
        house = House(GUESTS).choosing(BOB, 3).liking(BOB, [7, -7, 7])
        evening = (("in", ADA), ("in", BOB), ("in", CLEO), ("out", BOB, BOB), ("out", CLEO, ADA), ("out", ADA, CLEO))
        for depth, due in ((0, False), (1, False), (2, False), (3, True), (40, True)):
            self.assertIs(holds(house, evening, ("chose", BOB, depth)), due)
            self.assertIs(holds(house, evening, ("settled", BOB, depth)), not due)
        self.assertIs(holds(house, evening, ("chose", ADA, 1)), True)

    def test_cloaks_that_are_alike_do_not_count_as_better(self):
        house = House([ADA, BOB], worth=[1, 1])
        evening = (("in", ADA), ("in", BOB), ("out", ADA, BOB), ("out", BOB, ADA))
        self.assertIs(holds(house, evening, ("chose", ADA, 1)), True)
        self.assertIs(holds(house, evening, ("settled", ADA, 1)), False)
        self.assertIs(holds(house, evening, ("settled", ADA, 0)), True)
        self.assertIs(holds(house, evening, ("chose", ADA, 0)), False)

    def test_one_guest(self):
        house, evening = House([ADA]), (("in", ADA), ("out", ADA, ADA))
        self.assertIs(holds(house, evening, ("hung", ("out", ADA), 1, (ADA,))), True)
        self.assertIs(holds(house, evening, ("hung", ("in", ADA), 1, (ADA,))), False)
        self.assertIs(holds(house, evening, ("after", ("out", ADA), 1, (("in", ADA),))), True)
        self.assertIs(holds(house, evening, ("ahead", ("in", ADA), 1, (("out", ADA),))), True)

    def test_all_facts_in_all_evenings_of_two_guests(self):
        for house, book in sample_houses():
            if len(house) < 3:
                for evening in plain_evenings(house, book):
                    for fact in all_facts(house):
                        due = says(house, evening, fact)
                        self.assertIs(holds(house, evening, fact), due, (evening, fact))
                        self.assertIs(holds(house, evening, contrary(fact)), not due, (evening, fact))

    def test_facts_in_evenings_of_three_guests(self):
        for number, (house, book) in enumerate(sample_houses()):
            if len(house) == 3:
                found = plain_evenings(house, book)
                evening = found[(7 * number) % len(found)]
                for fact in all_facts(house):
                    self.assertIs(holds(house, evening, fact), says(house, evening, fact), (evening, fact))

    def test_the_evening_has_its_own_book(self):
        for book in permuted_books(TURNED):
            evening = plain_evenings(TURNED, book)[-1]
            for event in plain_events(TURNED):
                for count in range(4):
                    for kind in ("hung", "there"):
                        fact = (kind, event, count, GUESTS)
                        self.assertIs(holds(TURNED, evening, fact), says(TURNED, evening, fact))
        self.assertIs(holds(TURNED, TURNED_EVENING, ("before", ("in", TURNED_BOOK[0]), ("in", TURNED_BOOK[1]))), True)
