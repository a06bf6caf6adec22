"""Points 93 and 94: the greatest total of weights, prices and rings."""

from random import Random

from leavetaking.customs import Custom, custom_moves
from leavetaking.houses import House
from leavetaking.longevenings import custom_walk, is_long_evening, live
from leavetaking.totals import greatest_total, is_price_table, is_ring

from tests.helpers import ADA, BOB, PromiseCase, crowd, listed, within
from tests.helpers_customs import DEEP, TURNS, TWO, long_evenings, plain_ends, plain_live, plain_moves, some_customs

LONE = House([ADA], pegs=1)
ROUND = Custom(LONE, [(0, ADA, 0), (0, ADA, 1)], [1])
# Each of ada and bob comes once; then the evening is over.
ONCE = Custom(DEEP, [(0, ADA, 1), (1, BOB, 2)], [2])
OWN = ("out", ADA, ADA)
NOBODY = (0, (0, 0), (0, 0))


def total_of(weights, moves):
    """The total of the moves."""
    worth = {(kind, cloak): weight for kind, cloak, weight in weights}
    return sum([worth.get(tuple(move[1:]), 0) for move in moves if move[0] == "out"])


def plain_prices(custom, weights):
    """The price of each live condition, or None if the sums never end: moves are added one after the other."""
    alive = plain_live(custom)
    prices = {condition: 0 for condition in alive if plain_ends(custom, condition)}
    for _ in range(len(alive) + 1):
        further = dict(prices)
        for condition in alive:
            for move, after in plain_moves(custom, condition):
                if after in prices:
                    price = total_of(weights, [move]) + prices[after]
                    further[condition] = max(further.get(condition, price), price)
        if further == prices:
            return [(condition, prices[condition]) for condition in alive]
        prices = further
    return None


def weighted_customs(count):
    """Small customs with weights, in a fixed disorder."""
    draw = Random(93)
    for custom in some_customs(count):
        pairs = [(kind, cloak) for kind in custom.house for cloak in custom.house]
        few = draw.choice(((-1, 0), (-2, 1), (-3, -1, 1, 2), (10 ** 30, -10 ** 30), (0, 1)))
        yield custom, [pair + (draw.choice(few),) for pair in draw.sample(pairs, draw.randint(0, len(pairs)))]


def once_totals():
    """Weights for ONCE with its greatest total."""
    return [((), 0), ([(ADA, ADA, 3)], 3), ([(ADA, BOB, -5), (BOB, BOB, 2)], 2), ([(ADA, ADA, -1), (BOB, ADA, -7)], -1),
            ([(BOB, ADA, 10 ** 40), (ADA, BOB, -1)], 10 ** 40 - 1), ([(kind, cloak, -2) for kind in (ADA, BOB) for cloak in (ADA, BOB)], -4)]


class GreatestTotals(PromiseCase):
    def fields(self, custom, weights):
        found = greatest_total(custom, weights)
        return (found.word, found.total, found.evening, found.prices, found.ring)

    def test_none(self):
        for custom in (Custom(TWO, [], []), Custom(TWO, [(0, ADA, 0)], [3]), Custom(LONE, [(0, ADA, 0)], [1])):
            self.same(self.fields(custom, [(ADA, ADA, 5)]), ("none", None, None, None, None))

    def test_bounded(self):
        for weights, total in once_totals():
            word, found, evening, prices, ring = self.fields(ONCE, listed(weights))
            self.same((word, found, ring), ("bounded", total, None))
            self.same(total_of(weights, evening), total)
            self.same(is_long_evening(ONCE, evening), True)
            self.same(prices, tuple(plain_prices(ONCE, weights)))
            self.same([condition for condition, _ in prices], list(live(ONCE)))

    def test_the_empty_long_evening(self):
        custom = Custom(LONE, [(0, ADA, 0)], [0])
        self.same(self.fields(custom, [(ADA, ADA, -3)]), (
            "bounded", 0, (), (((0, (0,), (0,)), 0), ((0, (1,), (1,)), -3)), None,
        ))
        self.same(self.fields(Custom(LONE, [], [0]), ()), ("bounded", 0, (), (((0, (0,), (0,)), 0),), None))

    def test_rings_whose_sum_is_nothing(self):
        word, total, evening, prices, ring = self.fields(ROUND, [(ADA, ADA, 0)])
        self.same((word, total, ring), ("bounded", 0, None))
        self.same(is_long_evening(ROUND, evening), True)
        self.same(prices, tuple([(condition, 0) for condition in live(ROUND)]))
        custom = Custom(DEEP, [(0, ADA, 1), (1, BOB, 0)], [0])
        found = greatest_total(custom, [(ADA, ADA, 4), (BOB, BOB, -4), (ADA, BOB, 7), (BOB, ADA, -7)])
        self.same((found.word, found.total), ("bounded", 0))

    def test_unbounded(self):
        word, total, evening, prices, ring = self.fields(ROUND, [(ADA, ADA, 1)])
        self.same((word, total, evening, prices), ("unbounded", None, None, None))
        before, around, behind = ring
        self.same(is_long_evening(ROUND, before + around * 3 + behind), True)
        self.assertGreater(total_of([(ADA, ADA, 1)], around), 0)
        self.same(is_ring(ROUND, [(ADA, ADA, 1)], ring), True)

    def test_conditions_that_are_not_live_do_not_matter(self):
        # In the state 2, ada would come and leave for ever, and the evening would never end.
        custom = Custom(LONE, [(0, ADA, 1), (0, ADA, 2), (2, ADA, 2)], [1])
        found = greatest_total(custom, [(ADA, ADA, 6)])
        self.same((found.word, found.total), ("bounded", 6))
        self.same([condition for condition, _ in found.prices], list(live(custom)))
        self.assertLess(len(found.prices), 5)

    def test_all_small_customs(self):
        words = []
        for custom, weights in weighted_customs(260):
            found = greatest_total(custom, listed(weights))
            prices = plain_prices(custom, weights)
            words.append(found.word)
            if prices is None:
                self.same((found.word, found.total, found.evening, found.prices), ("unbounded", None, None, None))
                self.check_ring(custom, weights, found.ring)
            elif not prices:
                self.same(self.fields(custom, weights), ("none", None, None, None, None))
            else:
                self.same((found.word, found.total, found.ring), ("bounded", prices[0][1], None))
                self.same(found.prices, tuple(prices))
                self.assertTrue(is_long_evening(custom, found.evening))
                self.same(total_of(weights, found.evening), found.total)
                self.assertIs(is_price_table(custom, weights, found.prices, found.total), True)
                totals = [total_of(weights, moves) for moves in long_evenings(custom, 4)]
                self.assertLessEqual(max(totals, default=found.total), found.total)
        self.assertGreater(min([words.count(word) for word in ("none", "bounded", "unbounded")]), 10)

    def check_ring(self, custom, weights, ring):
        before, around, behind = ring
        conditions = custom_walk(custom, before + around + behind)
        self.assertEqual(conditions[len(before)], conditions[len(before + around)])
        self.assertTrue(is_long_evening(custom, before + around + behind))
        self.assertGreater(total_of(weights, around), 0)
        self.assertIs(is_ring(custom, weights, ring), True)

    def test_many_conditions(self):
        house = crowd(4).with_pegs(3)
        custom = Custom(house, [(state, kind, min(state + 1, 9)) for state in range(9) for kind in house], [9])
        weights = [(kind, cloak, 1 if kind == cloak else -1) for kind in house for cloak in house]
        with within(60):
            found = greatest_total(custom, weights)
            self.same((found.word, found.total), ("bounded", 9))
            self.same(is_price_table(custom, weights, found.prices, 9), True)
            ring = greatest_total(Custom(house, custom.arrows + ((9, "g3", 0),), [9]), weights).ring
        self.same(is_ring(Custom(house, custom.arrows + ((9, "g3", 0),), [9]), weights, ring), True)


class PriceTables(PromiseCase):
    WEIGHTS = ((ADA, ADA, 3), (BOB, BOB, 2), (BOB, ADA, -1))

    def judged(self, table, total=5, custom=ONCE):
        return is_price_table(custom, self.WEIGHTS, table, total)

    def test_prices_a_little_too_small_and_too_great(self):
        found = greatest_total(ONCE, self.WEIGHTS)
        self.same(found.total, 5)
        prices = found.prices
        self.same([self.judged(prices, total) for total in (4, 5, 6, 10 ** 40, -10 ** 40)], [False, True, True, True, False])
        for at, (condition, price) in enumerate(prices):
            less = prices[:at] + ((condition, price - 1),) + prices[at + 1:]
            self.same(self.judged(less), False)
        # A price may be greater than it must be, as long as those ahead of it are great enough.
        more = tuple([(condition, price + 7) for condition, price in prices])
        self.same([self.judged(more, 11), self.judged(more, 12)], [False, True])
        self.same(self.judged(prices[:1] + more[1:], 12), False)

    def test_order_and_items_twice(self):
        prices = greatest_total(ONCE, self.WEIGHTS).prices
        self.same(self.judged(listed(prices[::-1])), True)
        self.same(self.judged(prices + prices), True)
        condition, price = prices[3]
        self.same(self.judged(prices + ((condition, price + 1),)), False)
        self.same(self.judged(((condition, price - 1),) + prices), False)

    def test_a_live_condition_that_is_missing(self):
        prices = greatest_total(ONCE, self.WEIGHTS).prices
        for at in range(len(prices)):
            self.same(self.judged(prices[:at] + prices[at + 1:]), False)

    def test_conditions_that_are_not_live(self):
        prices = greatest_total(ONCE, self.WEIGHTS).prices
        # In the state 7 the evening never ends: a move that leads out of the table does not matter.
        far = (7, (1, 1), (1, 1))
        self.same(self.judged(prices + ((far, -50),)), True)
        # But a move within the table does.
        after = dict(custom_moves(ONCE, far))[OWN]
        self.same(self.judged(prices + ((far, -50), (after, -53))), True)
        self.same(self.judged(prices + ((far, -50), (after, -52))), False)
        # A condition that ends must have a price, though no move leads there.
        ends = Custom(DEEP, ONCE.arrows, [2, 7])
        alone = greatest_total(ends, self.WEIGHTS).prices
        self.same(self.judged(alone + (((7, (0, 0), (0, 0)), 0),), 5, ends), True)
        self.same(self.judged(alone + (((7, (0, 0), (0, 0)), -1),), 5, ends), False)

    def test_a_move_back_to_the_same_condition(self):
        custom = Custom(LONE, [(0, ADA, 0)], [0])
        table = [((0, (0,), (0,)), 0), ((0, (1,), (1,)), 0)]
        for weight, due in ((0, True), (1, False), (-1, True)):
            self.same(is_price_table(custom, [(ADA, ADA, weight)], table, 0), due)

    def test_customs_without_a_long_evening(self):
        custom = Custom(LONE, [(0, ADA, 0)], [])
        self.same([is_price_table(custom, (), (), total) for total in (-10 ** 30, 0)], [True, True])
        self.same(is_price_table(custom, (), (((0, (0,), (0,)), 8),), -3), True)
        self.same(is_price_table(custom, (), (((0, (0,), (0,)), 8), ((0, (0,), (0,)), 9)), -3), False)
        # The prices are looked at all the same.
        pair = (((0, (0,), (0,)), 0), ((0, (1,), (1,)), 0))
        self.same([is_price_table(custom, [(ADA, ADA, weight)], pair, -3) for weight in (0, 1)], [True, False])

    def test_all_small_customs(self):
        draw = Random(94)
        verdicts = []
        for custom, weights in weighted_customs(150):
            prices = plain_prices(custom, weights)
            if not prices:
                continue
            for _ in range(4):
                table = [(condition, price + draw.choice((0, 0, 0, 0, 1, -1))) for condition, price in prices]
                total = prices[0][1] + draw.choice((0, 0, 1, -1))
                verdicts.append(self.plain_judged(custom, weights, table, total))
                self.assertIs(is_price_table(custom, weights, table, total), verdicts[-1])
        self.assertGreater(min(verdicts.count(True), verdicts.count(False)), 20)

    def plain_judged(self, custom, weights, table, total):
        prices = dict(table)
        if any(plain_ends(custom, condition) and price < 0 for condition, price in table):
            return False
        for condition, price in table:
            for move, after in plain_moves(custom, condition):
                if after in prices and price < total_of(weights, [move]) + prices[after]:
                    return False
        return table[0][1] <= total


class Rings(PromiseCase):
    COME, COME_LAST, LEAVE = ("in", ADA, 0), ("in", ADA, 1), OWN

    def judged(self, before, around, behind, weight=1):
        return is_ring(ROUND, [(ADA, ADA, weight)], (before, around, behind))

    def test_rings(self):
        come, last, leave = self.COME, self.COME_LAST, self.LEAVE
        self.same(self.judged((), (come, leave), (last, leave)), True)
        self.same(self.judged([], [list(come), leave], [last, list(leave)]), True)
        self.same(self.judged((come,), (leave, come), (leave, last, leave)), True)
        self.same(self.judged((come, leave) * 20, (come, leave) * 40, (come, leave) * 30 + (last, leave)), True)
        # A sum of 0 and less, also with comings around.
        self.same([self.judged((), (come, leave), (last, leave), weight) for weight in (0, -1, 10 ** 30)], [False, False, True])
        # Nothing around.
        self.same(self.judged((), (), (last, leave)), False)
        # Around leads elsewhere, or behind does not lead to the end.
        self.same(self.judged((), (last, leave), ()), False)
        self.same(self.judged((), (come, leave, last, leave), ()), False)
        self.same(self.judged((), (come, leave), ()), False)
        self.same(self.judged((), (come, leave), (come, leave)), False)
        self.same(self.judged((), (come, leave), (last,)), False)

    def test_parts_that_are_not_let(self):
        come, last, leave = self.COME, self.COME_LAST, self.LEAVE
        good = ((), (come, leave), (last, leave))
        for wrong in (("in", "zoe", 0), ("out", ADA, "zoe"), ("out", "", ""), ("in", ADA, 5), come, leave):
            for at in range(3):
                ring = list(good)
                ring[at] = ring[at][:1] + (wrong,) + ring[at][1:]
                self.same(is_ring(ROUND, [(ADA, ADA, 1)], ring), False)

    def test_customs_without_an_end(self):
        custom = Custom(LONE, [(0, ADA, 0)], [])
        self.same(is_ring(custom, [(ADA, ADA, 1)], ((), (self.COME, self.LEAVE), ())), False)

    def test_conditions_come_back_and_not_only_their_states(self):
        custom = Custom(DEEP, [(0, ADA, 0), (0, BOB, 0)], [0])
        weights = [(ADA, ADA, 2), (BOB, ADA, 2)]
        around = (("in", ADA, 0), ("out", ADA, ADA))
        self.same(is_ring(custom, weights, ((("in", BOB, 0),), around, (("out", BOB, BOB),))), True)
        # Behind these, another guest is in the room.
        around = (("in", ADA, 0), ("out", BOB, ADA))
        self.same(is_ring(custom, weights, ((("in", BOB, 0),), around, (("out", ADA, BOB),))), False)
        self.same(is_long_evening(custom, (("in", BOB, 0),) + around + (("out", ADA, BOB),)), True)
        self.same(NOBODY in live(TURNS), True)
