"""Point 65: all orders that fit, and the places of cloaks in them."""

from itertools import islice, permutations
from math import factorial

from leavetaking.errors import NoOrder, UnknownGuest
from leavetaking.places import order_count, order_with_place, orders, place_range
from leavetaking.seen import Seen

from tests.helpers import ADA, BOB, CLEO, GUESTS, PromiseCase, plain_orders, some_seen, within

FREE = Seen((CLEO, ADA, BOB), (), [1, 1, 1])
TIED = FREE.tied(BOB, CLEO)
NEVER = TIED.tied(CLEO, BOB)
TWELVE = tuple([f"g{number}" for number in range(12)])


class Orders(PromiseCase):
    def test_ascending(self):
        self.same(list(orders(FREE)), list(permutations((CLEO, ADA, BOB))))
        self.same(list(orders(TIED)), [(ADA, BOB, CLEO), (BOB, CLEO, ADA), (BOB, ADA, CLEO)])
        self.same(list(orders(NEVER)), [])
        self.same(list(orders(Seen([ADA], [(ADA, ADA, [ADA])], [1]))), [(ADA,)])
        seen = Seen((CLEO, ADA, BOB), [(ADA, BOB, (CLEO, ADA, BOB))], [1, 2, 1])
        self.same(list(orders(seen)), [(CLEO, BOB, ADA), (ADA, BOB, CLEO), (BOB, CLEO, ADA), (BOB, ADA, CLEO)])

    def test_all_orders(self):
        counts = set()
        for seen in some_seen(150):
            due = plain_orders(seen)
            self.same(list(orders(seen)), due)
            self.same(order_count(seen), len(due))
            counts.add(len(due))
        self.assertGreater(len(counts), 8)

    def test_more_guests(self):
        for seen in some_seen(25, 5):
            due = plain_orders(seen)
            self.same(list(orders(seen)), due)
            self.same(order_count(seen), len(due))

    def test_one_after_the_other(self):
        with within(20):
            found = list(islice(orders(Seen(TWELVE, (), [1] * 12)), 3))
            self.same(found, [TWELVE, TWELVE[:10] + ("g11", "g10"), TWELVE[:9] + ("g10", "g9", "g11")])
            # Only what is worth least is known: no beginning is followed in vain.
            ties = [(other, "g0") for other in TWELVE[1:]]
            found = list(islice(orders(Seen(TWELVE, (), [1] * 12, ties)), 2))
            self.same(found, [TWELVE[1:] + ("g0",), TWELVE[1:10] + ("g11", "g10", "g0")])
            found = next(orders(Seen(TWELVE, (), [1] * 12, [("g11", "g0")])))
            self.same(found, TWELVE[1:] + ("g0",))
            back = list(zip(TWELVE[1:], TWELVE))
            self.same(list(orders(Seen(TWELVE, (), [1] * 12, back))), [TWELVE[::-1]])

    def test_two_generators_in_turn(self):
        one, two = orders(FREE), orders(TIED)
        found = [], []
        for _ in range(8):
            for at, generator in ((0, one), (1, two)):
                found[at].extend([item for item in [next(generator, None)] if item is not None])
            order_with_place(FREE, ADA, 1)
            list(orders(TIED))
        self.assertEqual(found, (plain_orders(FREE), plain_orders(TIED)))


class Counts(PromiseCase):
    def test_counts(self):
        self.same([order_count(seen) for seen in (FREE, TIED, NEVER)], [6, 3, 0])

    def test_twelve_guests(self):
        free = Seen(TWELVE, (), [1] * 12)
        with within(30):
            self.same(order_count(free), factorial(12))
            self.same(order_count(free.tied("g7", "g2")), factorial(12) // 2)
            self.same(order_count(Seen(TWELVE, (), [1] * 12, list(zip(TWELVE[1:], TWELVE)))), 1)
            self.same(order_count(Seen(TWELVE, [("g3", "g9", TWELVE)], [4] * 12)), factorial(11) * 4)
            many = [(guest, guest, TWELVE) for guest in TWELVE] * 5
            self.same(order_count(Seen(TWELVE, many, [12] * 12)), factorial(12))
            self.same(order_count(Seen(TWELVE, many, [11] * 12)), 0)


class Places(PromiseCase):
    def test_ranges(self):
        self.same([place_range(FREE, cloak) for cloak in GUESTS], [(0, 2), (0, 2), (0, 2)])
        self.same([place_range(TIED, cloak) for cloak in GUESTS], [(0, 2), (0, 1), (1, 2)])
        self.same(place_range(Seen([ADA], (), [1]), ADA), (0, 0))
        seen = Seen(GUESTS, [(ADA, BOB, (BOB, CLEO)), (ADA, CLEO, (ADA, CLEO))], [1, 1, 1])
        self.same([place_range(seen, cloak) for cloak in GUESTS], [(2, 2), (0, 0), (1, 1)])

    def test_order_with_place(self):
        self.same(order_with_place(FREE, ADA, 0), (ADA, CLEO, BOB))
        self.same(order_with_place(FREE, ADA, 1), (CLEO, ADA, BOB))
        self.same(order_with_place(FREE, BOB, 0), (BOB, CLEO, ADA))
        self.same(order_with_place(TIED, CLEO, 1), (BOB, CLEO, ADA))
        self.same(order_with_place(TIED, ADA, 2), (BOB, CLEO, ADA))
        self.assertIsNone(order_with_place(TIED, CLEO, 0))
        self.assertIsNone(order_with_place(TIED, BOB, 2))
        for place in range(3, 12):
            for cloak in GUESTS:
                self.assertIsNone(order_with_place(FREE, cloak, place))
                self.assertIsNone(order_with_place(TIED, cloak, place))

    def test_no_order(self):
        for cloak in GUESTS:
            self.refused(NoOrder, place_range, NEVER, cloak)
            for place in range(12):
                self.assertIsNone(order_with_place(NEVER, cloak, place))

    def test_unknown_guest_ahead_of_no_order(self):
        for seen in (FREE, TIED, NEVER):
            for name in ("zoe", "", "Ada"):
                self.same(self.refused(UnknownGuest, place_range, seen, name).name, name)
                for place in (0, 1, 11):
                    self.same(self.refused(UnknownGuest, order_with_place, seen, name, place).name, name)

    def test_all_orders(self):
        gone_without = 0
        for seen in list(some_seen(120)) + list(some_seen(12, 5)):
            every = plain_orders(seen)
            for cloak in seen.guests:
                places = {}
                for order in every:
                    places.setdefault(order.index(cloak), order)
                for place in range(12):
                    self.same(order_with_place(seen, cloak, place), places.get(place))
                if every:
                    self.same(place_range(seen, cloak), (min(places), max(places)))
                    self.assertEqual(len(places), max(places) - min(places) + 1)
                else:
                    gone_without += 1
                    self.refused(NoOrder, place_range, seen, cloak)
        self.assertGreater(gone_without, 30)

    def test_a_cloak_for_which_others_must_be_taken_off_first(self):
        # With a depth of 3 any one of the other three must be off before cleo's, and of these one bars another.
        guests = ("a", "b", "c", "d", "e")
        seen = Seen(guests, [("a", "c", ("a", "b", "c", "d"))], [3] * 5, [("a", "e"), ("b", "e"), ("d", "a")])
        every = plain_orders(seen)
        for cloak in guests:
            found = {order.index(cloak) for order in every}
            self.same(place_range(seen, cloak), (min(found), max(found)))

    def test_twelve_guests(self):
        free = Seen(TWELVE, (), [1] * 12)
        chain = Seen(TWELVE, [("g5", "g11", TWELVE)], [3] * 12, list(zip(TWELVE[8:0:-1], TWELVE[7::-1])))
        with within(40):
            self.same(place_range(free, "g4"), (0, 11))
            self.same(order_with_place(free, "g0", 11), TWELVE[1:] + ("g0",))
            self.same(order_with_place(free, "g11", 0), ("g11",) + TWELVE[:11])
            self.same(place_range(chain, "g8"), (0, 3))
            self.same(place_range(chain, "g0"), (9, 11))
            self.same(place_range(chain, "g11"), (0, 2))
            self.same(order_with_place(chain, "g8", 3), ("g9", "g10", "g11", "g8") + TWELVE[7::-1])
            self.assertIsNone(order_with_place(chain, "g0", 7))
