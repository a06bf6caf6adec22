"""Points 62 and 63: peeling and stuck lots."""

from itertools import permutations

from leavetaking.peeling import Peel, is_stuck, peel
from leavetaking.seen import Seen, fits_seen

from tests.helpers import ADA, BOB, CLEO, GUESTS, PromiseCase, lots_from, plain_held, plain_orders, some_seen, within


def plain_peel(seen):
    """The order and the cloaks that are left, read off point 62."""
    left, off = list(seen.guests), []
    while True:
        loose = [cloak for cloak in left if not plain_held(seen, cloak, left)]
        if not loose:
            break
        left.remove(loose[-1])
        off.append(loose[-1])
    return (None if left else tuple(off[::-1]), tuple(left))


def stuck_lots(seen):
    """All lots that are stuck, read off point 63."""
    return [lot for lot in lots_from(seen.guests) if lot and all(plain_held(seen, cloak, lot) for cloak in lot)]


def left_in_any_order(seen):
    """All lots that can be left if cloaks are taken off in whatever order as long as some may be."""
    ends, found, todo = set(), set(), [seen.guests]
    while todo:
        lot = todo.pop()
        if lot in found:
            continue
        found.add(lot)
        loose = [cloak for cloak in lot if not plain_held(seen, cloak, lot)]
        if not loose:
            ends.add(lot)
        todo.extend([tuple([other for other in lot if other != cloak]) for cloak in loose])
    return ends


class Peeling(PromiseCase):
    def check(self, seen):
        found = peel(seen)
        self.assertIsInstance(found, Peel)
        self.same((found.order, found.left), plain_peel(seen))
        return found

    def test_to_the_end(self):
        # The last one in house order that may be taken off is the worst one.
        self.same(self.check(Seen(GUESTS, (), [1, 1, 1])).order, GUESTS)
        self.same(self.check(Seen((CLEO, ADA, BOB), (), [1, 1, 1])).order, (CLEO, ADA, BOB))
        self.same(self.check(Seen(GUESTS, [(ADA, CLEO, GUESTS)], [1, 1, 1])).order, (CLEO, ADA, BOB))
        self.same(self.check(Seen(GUESTS, [(ADA, CLEO, GUESTS)], [2, 1, 1])).order, (ADA, CLEO, BOB))
        self.same(self.check(Seen(GUESTS, [(ADA, CLEO, GUESTS)], [3, 1, 1])).order, GUESTS)
        self.same(self.check(Seen([ADA], [(ADA, ADA, (ADA,))], [1])).order, (ADA,))
        self.same(self.check(Seen(GUESTS, (), [1, 1, 1], [(CLEO, ADA)])).order, (CLEO, ADA, BOB))
        self.same(self.check(Seen(GUESTS, (), [1, 1, 1], [(CLEO, ADA), (BOB, CLEO)])).order, (BOB, CLEO, ADA))
        self.same(self.check(Seen(GUESTS, (), [1, 1, 1])).left, ())

    def test_stuck(self):
        one = Seen(GUESTS, [(ADA, BOB, (ADA, BOB)), (CLEO, ADA, (ADA, BOB))], [1, 1, 1])
        self.same(self.check(one).left, (ADA, BOB))
        self.assertIsNone(self.check(one).order)
        # With a depth of 2 it is enough that one of the two guests takes what it likes best.
        self.same(self.check(Seen(one.guests, one.takings, [2, 1, 1])).order, (ADA, BOB, CLEO))
        self.same(self.check(Seen(one.guests, one.takings, [1, 1, 2])).order, (BOB, ADA, CLEO))
        ties = Seen(GUESTS, (), [1, 1, 1], [(ADA, BOB), (BOB, CLEO), (CLEO, ADA)])
        self.same(self.check(ties).left, GUESTS)
        self.same(self.check(Seen(GUESTS, [(ADA, CLEO, (BOB, CLEO))], [1, 1, 1], [(BOB, CLEO)])).left, (BOB, CLEO))
        # Ada is worth more than two that are stuck: it is left, too.
        above = Seen(GUESTS, (), [1, 1, 1], [(BOB, CLEO), (CLEO, BOB), (ADA, BOB)])
        self.same(self.check(above).left, GUESTS)
        below = Seen(GUESTS, (), [1, 1, 1], [(BOB, CLEO), (CLEO, BOB), (BOB, ADA)])
        self.same(self.check(below).left, (BOB, CLEO))

    def test_depths(self):
        guests = ("a", "b", "c", "d", "e")
        taken = [(guest, cloak, guests) for guest in guests for cloak in guests[1:]]
        for depth, order in ((1, None), (2, None), (3, None), (4, ("b", "c", "d", "e", "a")), (5, guests)):
            self.same(self.check(Seen(guests, taken, [depth] * 5)).order, order)
        self.same(self.check(Seen(guests, taken, [3] * 5)).left, guests[1:])
        self.same(self.check(Seen(guests, taken, [10 ** 30] * 5)).order, guests)
        self.same(self.check(Seen(guests, taken, [1, 5, 5, 5, 5])).left, guests[1:])

    def test_some_of_four(self):
        stuck = 0
        for seen in some_seen(300):
            found = self.check(seen)
            self.assertEqual(found.order is None, plain_orders(seen) == [])
            if found.order is None:
                stuck += 1
            else:
                self.assertIs(fits_seen(seen, found.order), True)
        self.assertGreater(stuck, 50)
        self.assertLess(stuck, 250)

    def test_in_whatever_order(self):
        for seen in some_seen(150):
            self.assertEqual(left_in_any_order(seen), {peel(seen).left})

    def test_twelve_guests(self):
        guests = tuple([f"g{number}" for number in range(12)])
        worth = guests[::2] + guests[::-2]
        hung = [guests[start:] for start in range(11)]
        taken = [(guests[5], sorted(row, key=worth.index)[0], row) for row in hung] * 5
        seen = Seen(guests, taken, [1] * 12, list(zip(worth, worth[1:]))[:20])
        with within(20):
            self.same(self.check(seen).order, worth)
            self.same(self.check(seen.tied(worth[-1], worth[0])).left, guests)
            self.same(is_stuck(seen, guests), False)


class Stuck(PromiseCase):
    def test_lots_in_any_order(self):
        seen = Seen(GUESTS, [(ADA, BOB, GUESTS), (CLEO, ADA, (ADA, BOB))], [2, 1, 1])
        for lot, due in (((ADA, BOB, CLEO), False), ((ADA, BOB), False), ((ADA,), False), ((), False)):
            for order in permutations(lot):
                self.same(is_stuck(seen, order), due)
                self.same(is_stuck(seen, list(order)), due)
        seen = Seen(GUESTS, seen.takings, [1, 1, 1], [(CLEO, ADA)])
        for lot, due in (((ADA, BOB, CLEO), True), ((ADA, BOB), True), ((BOB, CLEO), False), ((ADA, CLEO), False)):
            for order in permutations(lot):
                self.same(is_stuck(seen, order), due)
                self.same(is_stuck(seen, list(order)), due)

    def test_the_empty_lot_is_not_stuck(self):
        for seen in (Seen([ADA], (), [1]), Seen(GUESTS, (), [1, 1, 1], [(ADA, BOB), (BOB, ADA)])):
            self.same(is_stuck(seen, ()), False)
            self.same(is_stuck(seen, []), False)

    def test_every_lot(self):
        found = 0
        for seen in some_seen(200):
            left = peel(seen).left
            stuck = stuck_lots(seen)
            for lot in lots_from(seen.guests):
                self.same(is_stuck(seen, lot), lot in stuck)
                self.same(is_stuck(seen, list(lot[::-1])), lot in stuck)
            for lot in stuck:
                self.assertLessEqual(set(lot), set(left))
            self.assertIs(left in stuck, left != ())
            found += len(stuck)
        self.assertGreater(found, 60)

    def test_no_argument_is_changed(self):
        lot = [BOB, ADA]
        is_stuck(Seen(GUESTS, (), [1, 1, 1]), lot)
        self.assertEqual(lot, [BOB, ADA])
