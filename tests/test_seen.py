"""Points 60 and 61: what was seen, and the orders that explain and fit it."""

from itertools import permutations

from leavetaking.errors import BadDepth, BadName, BadTaking, BadTie, TakenName
from leavetaking.houses import House
from leavetaking.seen import Seen, explains, fits_seen
from leavetaking.takings import takings

from tests.helpers import (
    ADA, BOB, CLEO, GUESTS, PromiseCase, TURNED, TURNED_EVENING, listed, plain_explains, plain_orders, some_seen,
)

TAKEN = ((ADA, BOB, (ADA, BOB)), (BOB, CLEO, GUESTS), (BOB, BOB, (BOB,)))
DEPTHS = (1, 2, 10 ** 30)
TIES = ((CLEO, ADA), (CLEO, ADA), (BOB, ADA))
SEEN = Seen(GUESTS, TAKEN, DEPTHS, TIES)

BAD_TAKINGS = (
    ("zoe", ADA, (ADA, BOB)), ("", ADA, (ADA, BOB)), (ADA, "zoe", (ADA, BOB)), (ADA, "zoe", (ADA, "zoe")),
    (ADA, ADA, (ADA, "zoe")), (ADA, ADA, ("zoe", ADA)), (ADA, ADA, (BOB, ADA)), (ADA, CLEO, (CLEO, ADA, BOB)),
    (ADA, ADA, (ADA, ADA)), (ADA, BOB, (ADA, BOB, BOB)), (ADA, ADA, ()), (ADA, ADA, (BOB,)), (ADA, ADA, (BOB, CLEO)),
)
BAD_TIES = ((ADA, ADA), (ADA, "zoe"), ("zoe", ADA), ("zoe", "yves"), ("zoe", "zoe"), (ADA, ""), ("Ada", BOB))


class Making(PromiseCase):
    def fields(self, seen):
        return (seen.guests, seen.takings, seen.depths, seen.ties)

    def test_fields(self):
        for kind in (tuple, listed):
            seen = Seen(kind(GUESTS), kind(TAKEN), kind(DEPTHS), kind(TIES))
            self.same(self.fields(seen), (GUESTS, TAKEN, DEPTHS, TIES))
        self.same(self.fields(Seen([ADA], [], [1])), ((ADA,), (), (1,), ()))
        self.same(self.fields(Seen((CLEO, ADA), [(ADA, ADA, [CLEO, ADA])], [1, 1], ())),
                  ((CLEO, ADA), ((ADA, ADA, (CLEO, ADA)),), (1, 1), ()))

    def test_takings_of_evenings(self):
        taken = takings(TURNED, TURNED_EVENING)
        self.same(Seen(GUESTS, taken, [1, 2, 1]).takings, taken)
        self.same(Seen(GUESTS, taken * 20, [1, 2, 1]).takings, taken * 20)

    def test_later_changes_to_arguments(self):
        guests, taken, depths, ties = listed(GUESTS), listed(TAKEN), listed(DEPTHS), listed(TIES)
        seen = Seen(guests, taken, depths, ties)
        self.assertEqual((guests, taken, depths, ties), (listed(GUESTS), listed(TAKEN), listed(DEPTHS), listed(TIES)))
        taken[0][2].clear()
        for row in (guests, taken, depths, ties):
            row.clear()
        self.same(self.fields(seen), (GUESTS, TAKEN, DEPTHS, TIES))
        self.same(fits_seen(seen, (CLEO, BOB, ADA)), True)

    def test_tied(self):
        seen = SEEN.tied(ADA, CLEO)
        self.assertIsInstance(seen, Seen)
        self.same(self.fields(seen), (GUESTS, TAKEN, DEPTHS, TIES + ((ADA, CLEO),)))
        self.same(self.fields(SEEN), (GUESTS, TAKEN, DEPTHS, TIES))
        self.same(Seen(GUESTS, (), DEPTHS).tied(BOB, ADA).tied(BOB, ADA).ties, ((BOB, ADA), (BOB, ADA)))

    def test_tied_with_a_tie_that_is_none(self):
        for better, worse in BAD_TIES:
            self.same(self.refused(BadTie, SEEN.tied, better, worse).index, 3)
            self.same(self.refused(BadTie, Seen(GUESTS, (), DEPTHS).tied, better, worse).index, 0)
        self.same(self.fields(SEEN), (GUESTS, TAKEN, DEPTHS, TIES))


class Errors(PromiseCase):
    def test_bad_names(self):
        for name in ("", "Ada", "1da", "ada_", "ninechars", "a b"):
            for guests in ((name,), (ADA, name, "Bob", ADA), (ADA, ADA, name)):
                for passed in (guests, list(guests)):
                    error = self.refused(BadName, Seen, passed, (), (1,) * len(guests))
                    self.same(error.name, name)

    def test_taken_names(self):
        self.same(self.refused(TakenName, Seen, (ADA, BOB, BOB, ADA), (), (1,) * 4).name, BOB)
        self.same(self.refused(TakenName, Seen, [ADA, BOB, ADA], (), (1,) * 3).name, ADA)

    def test_bad_depths(self):
        for depth in (0, -1, -10 ** 30):
            for depths in ((depth, 1, 1), (1, 2, depth), (1, depth, -7)):
                self.same(self.refused(BadDepth, Seen, GUESTS, TAKEN, depths, TIES).depth, depth)
                self.same(self.refused(BadDepth, Seen, GUESTS, TAKEN, list(depths)).depth, depth)

    def test_bad_takings(self):
        for wrong in BAD_TAKINGS:
            for place in range(len(TAKEN) + 1):
                taken = TAKEN[:place] + (wrong,) + TAKEN[place:] + BAD_TAKINGS[:1]
                self.same(self.refused(BadTaking, Seen, GUESTS, taken, DEPTHS).index, place)
                self.same(self.refused(BadTaking, Seen, listed(GUESTS), listed(taken), DEPTHS, TIES).index, place)

    def test_house_order_is_that_of_the_guests(self):
        self.same(Seen((CLEO, BOB), [(BOB, CLEO, (CLEO, BOB))], (1, 1)).takings, ((BOB, CLEO, (CLEO, BOB)),))
        self.same(self.refused(BadTaking, Seen, (CLEO, BOB), [(BOB, CLEO, (BOB, CLEO))], (1, 1)).index, 0)

    def test_bad_ties(self):
        for wrong in BAD_TIES:
            for place in range(len(TIES) + 1):
                ties = TIES[:place] + (wrong,) + TIES[place:] + BAD_TIES[:1]
                self.same(self.refused(BadTie, Seen, GUESTS, TAKEN, DEPTHS, ties).index, place)
                self.same(self.refused(BadTie, Seen, GUESTS, (), DEPTHS, listed(ties)).index, place)

    def test_several_errors(self):
        wrong = [
            (BadName, 0, (ADA, ADA, "Bob")), (TakenName, 0, (ADA, BOB, ADA)), (BadDepth, 2, (1, 0, 1)),
            (BadTaking, 1, BAD_TAKINGS[:1]), (BadTie, 3, BAD_TIES[:1]),
        ]
        for first, (error, place, value) in enumerate(wrong):
            for later in range(2 ** len(wrong[first + 1:])):
                values = [GUESTS, TAKEN, DEPTHS, TIES]
                for bit, (_, other_place, other) in enumerate(wrong[first + 1:]):
                    if later >> bit & 1:
                        values[other_place] = other
                values[place] = value
                self.refused(error, Seen, *values)
                self.refused(error, Seen, *listed(values))


class Orders(PromiseCase):
    def test_explains(self):
        taking = (ADA, BOB, (ADA, BOB, CLEO))
        for order, ahead in (((BOB, ADA, CLEO), 0), ((ADA, BOB, CLEO), 1), ((CLEO, ADA, BOB), 2)):
            for depth in (1, 2, 3, 10 ** 30):
                self.same(explains(order, taking, depth), ahead < depth)
                self.same(explains(list(order), listed(taking), depth), ahead < depth)
        # Only cloaks that hung count.
        self.same(explains((CLEO, ADA, BOB), (ADA, BOB, (ADA, BOB)), 2), True)
        self.same(explains((CLEO, ADA, BOB), (ADA, BOB, (BOB, CLEO)), 1), False)
        self.same(explains((CLEO, ADA, BOB), (ADA, BOB, (BOB,)), 1), True)

    def test_the_guest_of_the_taking_does_not_matter(self):
        for guest in GUESTS:
            self.same(explains((BOB, CLEO, ADA), (guest, CLEO, GUESTS), 1), False)
            self.same(explains((BOB, CLEO, ADA), (guest, CLEO, GUESTS), 2), True)

    def test_fits_seen(self):
        seen = Seen(GUESTS, [(ADA, BOB, GUESTS), (CLEO, CLEO, (ADA, CLEO))], [2, 1, 1])
        for order, due in (((BOB, CLEO, ADA), True), ((CLEO, BOB, ADA), True), ((CLEO, ADA, BOB), False),
                           ((BOB, ADA, CLEO), False), ((ADA, BOB, CLEO), False), ((ADA, CLEO, BOB), False)):
            self.same(fits_seen(seen, order), due)
            self.same(fits_seen(seen, list(order)), due)
            self.same(fits_seen(seen.tied(BOB, ADA), order), due)
            self.same(fits_seen(seen.tied(BOB, CLEO), order), due and order[0] == BOB)
            self.same(fits_seen(seen.tied(BOB, CLEO).tied(CLEO, BOB), order), False)

    def test_nothing_was_seen(self):
        for order in permutations(GUESTS):
            self.same(fits_seen(Seen(GUESTS, (), DEPTHS), order), True)
            self.same(fits_seen(Seen(GUESTS, (), DEPTHS, [(ADA, BOB)]), order), order.index(ADA) < order.index(BOB))

    def test_the_depth_is_that_of_the_guest(self):
        for guest, depths in ((ADA, [2, 1, 1]), (BOB, [1, 2, 1]), (CLEO, [1, 1, 2])):
            for other in GUESTS:
                seen = Seen(GUESTS, [(other, CLEO, GUESTS)], depths)
                self.same(fits_seen(seen, (ADA, CLEO, BOB)), guest == other)

    def test_all_orders(self):
        answers = []
        for seen in some_seen(60):
            due = plain_orders(seen)
            depths = dict(zip(seen.guests, seen.depths))
            for order in permutations(seen.guests):
                self.same(fits_seen(seen, order), order in due)
                answers.append(order in due)
                for taking in seen.takings:
                    depth = depths[taking[0]]
                    self.same(explains(order, taking, depth), plain_explains(order, taking, depth))
        self.assertGreater(min(answers.count(True), answers.count(False)), 100)

    def test_evenings_of_a_house_with_that_order(self):
        house = House(GUESTS, worth=[2, 3, 1])
        steps = (("in", ADA), ("in", BOB), ("in", CLEO), ("out", CLEO, BOB), ("out", ADA, ADA), ("out", BOB, CLEO))
        self.same(fits_seen(Seen(GUESTS, takings(house, steps), (1, 1, 1)), (BOB, ADA, CLEO)), True)
        self.same(fits_seen(Seen(GUESTS, takings(house, steps), (1, 1, 1)), (BOB, CLEO, ADA)), False)
