"""Point 91: watches."""

from random import Random

from leavetaking.errors import BadRule
from leavetaking.watches import Watch

from tests.helpers import ADA, BOB, PromiseCase, listed
from tests.helpers_customs import DEEP, plain_state, some_watch

COMES = ("in", ADA)
LEAVES = ("out", ADA, BOB)
RULES = ((0, COMES, 1), (1, COMES, 2), (1, LEAVES, 0), (2, LEAVES, 9))
MOVES = (("in", ADA, 4), ("out", BOB, BOB), ("in", ADA, 0), ("in", BOB, 0), ("out", ADA, BOB))


class Watches(PromiseCase):
    def test_fields(self):
        watch = Watch(listed(RULES), [9, 0, 9])
        self.same((watch.rules, watch.good), (RULES, (0, 9)))
        self.same(Watch(RULES[::-1], ()).rules, RULES[::-1])
        self.same((Watch((), ()).rules, Watch((), ()).good), ((), ()))

    def test_arguments_are_copied(self):
        rules, good = listed(RULES), [0]
        watch = Watch(rules, good)
        rules[0][1][0] = "out"
        rules.pop()
        good.append(1)
        self.same((watch.rules, watch.good), (RULES, (0,)))
        self.same(watch.state_after(2, LEAVES), 9)

    def test_rules_with_the_state_and_the_event_of_one_ahead(self):
        self.same(self.refused(BadRule, Watch, RULES + ((1, COMES, 2),), [0]).index, 4)
        self.same(self.refused(BadRule, Watch, [RULES[0], (0, LEAVES, 1), (0, list(COMES), 3), (0, LEAVES, 1)], [0]).index, 2)
        self.same(self.refused(BadRule, Watch, RULES[:1] * 2, []).index, 1)
        # Another state, or another event, is another rule.
        self.same(len(Watch([(0, COMES, 1), (1, COMES, 1), (0, LEAVES, 1), (0, ("out", ADA, ADA), 1)], []).rules), 4)

    def test_the_next_state(self):
        watch = Watch(RULES, [0])
        self.same([watch.state_after(state, COMES) for state in range(4)], [1, 2, 2, 3])
        self.same([watch.state_after(state, LEAVES) for state in (0, 1, 2, 9)], [0, 0, 9, 9])
        self.same([watch.state_after(state, ["out", ADA, BOB]) for state in (0, 1, 2, 9)], [0, 0, 9, 9])
        for event in (("in", BOB), ("in", "zoe"), ("out", ADA, ADA), ("out", "", "yan")):
            self.same([watch.state_after(state, event) for state in range(10)], list(range(10)))

    def test_calls(self):
        for good in range(10):
            self.same(Watch(RULES, [good])(MOVES), good == 9)
            self.same(Watch(RULES, [good])(listed(MOVES)), good == 9)
            self.same(Watch(RULES, [good])(MOVES[:1]), good == 1)
            self.same(Watch(RULES, [good])([]), good == 0)
            self.same(Watch([], [good])(MOVES), good == 0)

    def test_calls_with_strange_names(self):
        moves = (("in", "zoe", 3), ("out", "", ADA), ("in", "", 0), ("out", ADA, "zoe")) + MOVES
        self.same([Watch(RULES, [good])(moves) for good in (0, 1, 9)], [False, False, True])
        watch = Watch([(0, ("in", "zoe"), 5), (5, ("out", "x y", ""), 6)], [6])
        self.same([watch((("in", "zoe", 1), ("out", "x y", ""))), watch((("out", "x y", ""), ("in", "zoe", 1)))], [True, False])

    def test_what_was_seen_is_not_kept(self):
        watch = Watch(RULES, [1])
        self.same([watch(MOVES[:1]), watch(MOVES), watch(MOVES[:1]), watch(())], [True, False, True, False])

    def test_the_contrary(self):
        watch = ~Watch(RULES, [3, 0])
        self.same((watch.rules, watch.good), (RULES, (1, 2, 4, 5, 6, 7, 8, 9)))
        self.same((~watch).good, (0, 3))
        self.same([watch(MOVES), (~watch)(MOVES)], [True, False])
        self.same([(~Watch((), ())).good, (~Watch((), range(10))).good], [tuple(range(10)), ()])

    def test_never(self):
        for event in (COMES, LEAVES):
            watch = Watch.never(list(event))
            self.same((watch.rules, watch.good), (((0, event, 1),), (0,)))
            self.same([watch(MOVES), watch(()), watch(MOVES[1:2]), (~watch)(MOVES)], [False, True, True, True])

    def test_follows(self):
        watch = Watch.follows(COMES, list(LEAVES))
        self.same((watch.rules, watch.good), (((0, COMES, 1), (1, LEAVES, 0)), (0,)))
        self.same([watch(MOVES), watch(MOVES[:4]), watch(MOVES + MOVES[:1]), watch(())], [True, False, False, True])
        # The other event may happen without the first one, and it must happen later.
        self.same([watch(MOVES[4:]), watch(MOVES[4:] + MOVES[:1])], [True, False])

    def test_many_watches(self):
        draw = Random(91)
        events = [("in", ADA, 3), ("in", BOB, 0), ("out", ADA, ADA), ("out", ADA, BOB), ("out", BOB, ADA), ("out", BOB, BOB)]
        kept = []
        for _ in range(200):
            watch = some_watch(draw, DEEP)
            moves = [draw.choice(events) for _ in range(draw.randint(0, 8))]
            state = plain_state(watch, moves)
            self.assertIs(watch(moves), state in watch.good)
            self.assertIs((~watch)(moves), state not in watch.good)
            kept.append(watch(moves))
        self.assertGreater(min(kept.count(True), kept.count(False)), 40)
