"""Point 59: takings."""

from itertools import permutations, product

from leavetaking.evenings import evenings
from leavetaking.houses import House
from leavetaking.takings import takings

from tests.helpers import (
    ADA, BOB, CLEO, GUESTS, PromiseCase, TURNED, TURNED_EVENING, listed, plain_events, row_houses, state_at,
)


def plain_takings(house, evening):
    """The takings of the evening, read off point 59."""
    return tuple([(step[1], step[2], tuple(state_at(house, evening, place)[2]))
                  for place, step in enumerate(evening) if step[0] == "out"])


def hung_evenings(house):
    """All ways to come and to leave in a cloak that hangs: evenings as in point 59, of whatever tastes and pegs."""
    for events in permutations(plain_events(house)):
        if all(events.index(("in", guest)) < events.index(("out", guest)) for guest in house.guests):
            for worn in permutations(house.guests):
                cloaks = dict(zip(house.guests, worn))
                steps = tuple([event if event[0] == "in" else event + (cloaks[event[1]],) for event in events])
                if all(step[0] == "in" or step[2] in state_at(house, steps, place)[2]
                       for place, step in enumerate(steps)):
                    yield steps


class Takings(PromiseCase):
    def check(self, house, evening):
        due = plain_takings(house, evening)
        self.same(takings(house, evening), due)
        self.same(takings(house, listed(evening)), due)

    def test_in_order(self):
        self.same(takings(TURNED, TURNED_EVENING), (
            (BOB, CLEO, (BOB, CLEO)), (CLEO, ADA, (ADA, BOB)), (ADA, BOB, (BOB,)),
        ))
        house = House([CLEO, ADA, BOB])
        evening = (("in", BOB), ("in", ADA), ("in", CLEO), ("out", ADA, BOB), ("out", CLEO, ADA), ("out", BOB, CLEO))
        self.same(takings(house, evening), (
            (ADA, BOB, (CLEO, ADA, BOB)), (CLEO, ADA, (CLEO, ADA)), (BOB, CLEO, (CLEO,)),
        ))
        self.same(takings(House([ADA]), [["in", ADA], ["out", ADA, ADA]]), ((ADA, ADA, (ADA,)),))

    def test_evenings_of_other_tastes_depths_and_pegs(self):
        # In turn all hang, though there is one peg; nobody takes the best one.
        house = House(GUESTS, pegs=1)
        evening = (("in", BOB), ("in", ADA), ("in", CLEO), ("out", ADA, CLEO), ("out", CLEO, BOB), ("out", BOB, ADA))
        due = ((ADA, CLEO, GUESTS), (CLEO, BOB, (ADA, BOB)), (BOB, ADA, (ADA,)))
        for each in (house, house.with_pegs(2), House(GUESTS, worth=[7, 7, 9]), house.choosing(BOB, 3)):
            self.same(takings(each, evening), due)

    def test_all_evenings_of_small_houses(self):
        for house, book in row_houses():
            for evening in evenings(house, book):
                self.check(house, evening)

    def test_all_ways_to_leave_in_what_hangs(self):
        many = 0
        for house in (House([ADA, BOB]), House([BOB, ADA], brings=[ADA, BOB], pegs=1).choosing(ADA, 2),
                      House([CLEO, ADA, BOB], brings=[ADA, CLEO, BOB], pegs=2)):
            for evening in hung_evenings(house):
                self.check(house, evening)
                many += 1
        self.assertGreater(many, 300)

    def test_brought_cloaks(self):
        for brought in permutations(GUESTS):
            house = House(GUESTS, brings=brought)
            for first, second in product(GUESTS, GUESTS):
                if first != second:
                    cloaks = house.brought(first), house.brought(second)
                    last = [guest for guest in GUESTS if guest not in (first, second)][0]
                    evening = (("in", first), ("in", second), ("out", second, cloaks[0]), ("in", last),
                               ("out", last, cloaks[1]), ("out", first, house.brought(last)))
                    self.check(house, evening)

    def test_no_argument_is_changed(self):
        steps = listed(TURNED_EVENING)
        takings(TURNED, steps)
        self.assertEqual(steps, listed(TURNED_EVENING))
