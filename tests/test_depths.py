"""Point 66: least depths, evenings that must be doubted, and ordered houses."""

from itertools import permutations, product
from random import Random

from leavetaking.depths import least_depth, least_doubted, ordered_house
from leavetaking.evenings import evenings, is_evening
from leavetaking.houses import House
from leavetaking.seen import Seen
from leavetaking.takings import takings

from tests.helpers import (
    ADA, BOB, CLEO, GUESTS, PromiseCase, crowd, listed, lots_from, plain_explains, plain_orders, some_seen, within,
)
from tests.test_takings import hung_evenings

HOUSE = House(GUESTS)
# In the first one ada takes bob's cloak rather than its own, in the second one its own rather than bob's; in the third
# one each guest leaves alone.
ONE = (("in", ADA), ("in", BOB), ("out", ADA, BOB), ("out", BOB, ADA), ("in", CLEO), ("out", CLEO, CLEO))
TWO = (("in", ADA), ("in", BOB), ("out", ADA, ADA), ("out", BOB, BOB), ("in", CLEO), ("out", CLEO, CLEO))
THREE = (("in", CLEO), ("out", CLEO, CLEO), ("in", ADA), ("out", ADA, ADA), ("in", BOB), ("out", BOB, BOB))


class Least(PromiseCase):
    def test_least_depth(self):
        taken = [(ADA, BOB, GUESTS), (ADA, ADA, (ADA, BOB)), (BOB, CLEO, GUESTS)]
        self.same(least_depth(Seen(GUESTS, taken[:1], [1, 1, 1])), 1)
        self.same(least_depth(Seen(GUESTS, taken[:2], [1, 1, 1])), 2)
        self.same(least_depth(Seen(GUESTS, taken, [7, 7, 7])), 2)
        every = [(guest, guest, GUESTS) for guest in GUESTS]
        self.same(least_depth(Seen(GUESTS, every, [1, 1, 1])), 3)
        self.same(least_depth(Seen(GUESTS, every, [10 ** 30] * 3)), 3)

    def test_no_takings(self):
        for depths in ([1, 1, 1], [5, 6, 7]):
            self.same(least_depth(Seen(GUESTS, (), depths)), 1)
            self.same(least_depth(Seen(GUESTS, (), depths, [(ADA, BOB), (BOB, CLEO)])), 1)
        self.same(least_depth(Seen([ADA], [(ADA, ADA, [ADA])], [3])), 1)

    def test_ties_alone(self):
        for ties in ([(ADA, BOB), (BOB, ADA)], [(ADA, BOB), (BOB, CLEO), (CLEO, ADA)]):
            self.assertIsNone(least_depth(Seen(GUESTS, (), [1, 1, 1], ties)))
            self.assertIsNone(least_depth(Seen(GUESTS, [(ADA, ADA, GUESTS)], [3, 3, 3], ties)))
        # The tie and the taking do not agree unless the depth is greater.
        self.same(least_depth(Seen(GUESTS, [(ADA, ADA, GUESTS)], [1, 1, 1], [(BOB, ADA), (CLEO, BOB)])), 3)

    def test_all_orders(self):
        found = set()
        for seen in some_seen(150):
            due = [depth for depth in range(1, 7)
                   if plain_orders(Seen(seen.guests, seen.takings, [depth] * len(seen.guests), seen.ties))]
            self.same(least_depth(seen), due[0] if due else None)
            found.add(due[0] if due else None)
        self.assertGreaterEqual(found, {None, 1, 2, 3})

    def test_twelve_guests(self):
        guests = tuple([f"g{number}" for number in range(12)])
        with within(20):
            every = [(guest, guest, guests) for guest in guests]
            self.same(least_depth(Seen(guests, every, [1] * 12)), 12)
            self.same(least_depth(Seen(guests, every[:7], [1] * 12)), 7)


class Doubted(PromiseCase):
    def check(self, house, told, depths):
        taken = [takings(house, evening) for evening in told]
        depth_of = dict(zip(house.guests, depths))

        def is_enough(lot):
            kept = [taking for index, row in enumerate(taken) if index not in lot for taking in row]
            return any(all(plain_explains(order, taking, depth_of[taking[0]]) for taking in kept)
                       for order in permutations(house.guests))

        due = [lot for lot in lots_from(range(len(told))) if is_enough(lot)][0]
        self.same(least_doubted(house, told, depths), due)
        self.same(least_doubted(house, listed(told), list(depths)), due)
        return due

    def test_lots_in_order(self):
        depths = (1, 1, 1)
        self.same(self.check(HOUSE, (ONE, TWO), depths), (0,))
        self.same(self.check(HOUSE, (TWO, ONE), depths), (0,))
        self.same(self.check(HOUSE, (ONE, TWO, ONE), depths), (1,))
        self.same(self.check(HOUSE, (THREE, ONE, TWO, TWO), depths), (1,))
        self.same(self.check(HOUSE, (ONE, ONE, THREE, TWO, TWO), depths), (0, 1))
        self.same(self.check(HOUSE, (ONE, TWO), (2, 1, 1)), ())
        self.same(self.check(HOUSE, (ONE, TWO), (1, 2, 2)), (0,))
        self.same(self.check(HOUSE, (ONE,), depths), ())

    def test_no_evening(self):
        self.same(least_doubted(HOUSE, (), (1, 1, 1)), ())
        self.same(least_doubted(House([ADA]), [], [1]), ())

    def test_an_evening_that_no_order_explains(self):
        steps = (("in", ADA), ("in", BOB), ("out", ADA, BOB), ("in", CLEO), ("out", BOB, ADA), ("out", CLEO, CLEO))
        mixed = (("in", ADA), ("in", BOB), ("in", CLEO), ("out", ADA, BOB), ("out", BOB, CLEO), ("out", CLEO, ADA))
        self.same(self.check(HOUSE, (mixed, steps), (1, 1, 1)), (0,))
        house = House(GUESTS, brings=[BOB, ADA, CLEO])
        self.check(house, (mixed, steps), (1, 1, 1))

    def test_seven_evenings(self):
        self.same(self.check(HOUSE, (ONE, TWO, TWO, ONE, TWO, ONE, THREE), (1, 1, 1)), (0, 3, 5))
        house = House(GUESTS, brings=[CLEO, ADA, BOB])
        every = list(hung_evenings(house))
        draw = Random(66)
        sizes = set()
        for _ in range(25):
            told = tuple([draw.choice(every) for _ in range(draw.choice((3, 5, 7)))])
            sizes.add(len(self.check(house, told, [draw.choice((1, 1, 2)) for _ in GUESTS])))
        self.assertGreaterEqual(sizes, {1, 2, 3})

    def test_the_tastes_of_the_house_do_not_matter(self):
        for house in (HOUSE.liking(ADA, [0, 9, 9]), HOUSE.with_pegs(1), HOUSE.choosing(ADA, 3)):
            self.same(self.check(house, (ONE, TWO), (1, 1, 1)), (0,))

    def test_twelve_guests(self):
        house = crowd(12)
        comings = tuple([("in", guest) for guest in house.guests])
        told = [comings + tuple([("out", guest, cloak) for guest, cloak in zip(house.guests, cloaks)])
                for cloaks in (house.guests, house.guests[::-1], house.guests[1:] + house.guests[:1], house.guests) * 2]
        with within(20):
            self.same(least_doubted(house, told[:7], [1] * 12), (1, 2, 5, 6))
            self.same(least_doubted(house, told[:7], [12] * 12), ())

    def test_no_argument_is_changed(self):
        told, depths = listed((ONE, TWO)), [1, 1, 1]
        least_doubted(HOUSE, told, depths)
        self.assertEqual((told, depths), (listed((ONE, TWO)), [1, 1, 1]))


class Ordered(PromiseCase):
    def test_ordered_house(self):
        house = House(GUESTS, worth=[5, 5, 5], brings=[CLEO, ADA, BOB], pegs=2).choosing(BOB, 7)
        for order, depths in (((BOB, CLEO, ADA), (1, 2, 3)), ([BOB, CLEO, ADA], [1, 2, 3])):
            found = ordered_house(house, order, depths)
            self.assertEqual(found, House(GUESTS, worth=[1, 3, 2], brings=[CLEO, ADA, BOB]).choosing(BOB, 2)
                             .choosing(CLEO, 3))
            self.assertIsNone(found.pegs)
            self.same(found.brings, (CLEO, ADA, BOB))
            self.same([found.taste(guest) for guest in GUESTS], [(1, 3, 2)] * 3)
            self.same([found.depth(guest) for guest in GUESTS], [1, 2, 3])
        self.assertEqual(ordered_house(house, GUESTS, (1, 1, 1)), House(GUESTS, brings=[CLEO, ADA, BOB]))
        self.assertEqual(house, House(GUESTS, worth=[5, 5, 5], brings=[CLEO, ADA, BOB], pegs=2).choosing(BOB, 7))
        self.assertEqual(ordered_house(House([ADA], pegs=3), [ADA], [10 ** 30]), House([ADA]).choosing(ADA, 10 ** 30))

    def test_the_evenings_that_the_order_explains(self):
        for house in (House([ADA, BOB], pegs=1), House(GUESTS, brings=[BOB, ADA, CLEO])):
            every = list(hung_evenings(house))[::7 if len(house) == 3 else 1]
            for order in permutations(house.guests):
                for depths in ((1,) * len(house), (2,) + (1,) * (len(house) - 1), (1, 2, 3)[:len(house)]):
                    ordered = ordered_house(house, order, depths)
                    depth_of = dict(zip(house.guests, depths))
                    for evening in every:
                        book = [step[1] for step in evening if step[0] == "in"]
                        due = all(plain_explains(order, taking, depth_of[taking[0]])
                                  for taking in takings(house, evening))
                        self.assertIs(is_evening(ordered, book, evening), due)

    def test_evenings_of_the_house_are_explained(self):
        for order, depths in product(((BOB, CLEO, ADA), (CLEO, ADA, BOB)), ((1, 1, 1), (1, 3, 2))):
            ordered = ordered_house(HOUSE, order, depths)
            for evening in evenings(ordered, (BOB, ADA, CLEO)):
                seen = Seen(GUESTS, takings(HOUSE, evening), depths)
                self.assertIn(order, plain_orders(seen))
                self.same(least_doubted(HOUSE, [evening], depths), ())
