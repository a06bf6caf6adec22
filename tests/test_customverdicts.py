"""Point 92: whether all long evenings of a custom keep a watch."""

from random import Random

from leavetaking.customs import Custom, custom_moves
from leavetaking.customverdicts import custom_verdict, is_custom_table
from leavetaking.houses import House
from leavetaking.longevenings import is_long_evening
from leavetaking.watches import Watch

from tests.helpers import ADA, BOB, PromiseCase, crowd, listed, within
from tests.helpers_customs import (
    DEEP, TURNS, event_of, long_evenings, plain_ends, plain_moves, plain_reached, plain_state, some_customs, some_watch,
)

OWN = ("out", ADA, ADA)
LONE = House([ADA], pegs=1)
# ada comes and leaves as often as it likes; in the state 1 the evening is over.
ROUND = Custom(LONE, [(0, ADA, 0), (0, ADA, 1)], [1])


def plain_pairs(custom, watch):
    """All pairs of a condition and a state of the watch, in the order in which they are found."""
    found = [(plain_reached(custom)[0], 0)]
    for condition, state in found:
        for move, after in plain_moves(custom, condition):
            further = (after, watch.state_after(state, event_of(move)))
            if further not in found:
                found.append(further)
    return found


def plain_word(custom, watch):
    """The word, read off all pairs."""
    goods = {state in watch.good for condition, state in plain_pairs(custom, watch) if plain_ends(custom, condition)}
    return {(): "none", (True,): "sure", (False,): "never", (False, True): "open"}[tuple(sorted(goods))]


def customs_and_watches(count):
    """Small customs with a watch for each."""
    draw = Random(92)
    for custom in some_customs(count):
        yield custom, some_watch(draw, custom.house)


class CustomVerdicts(PromiseCase):
    def fields(self, custom, watch):
        found = custom_verdict(custom, watch)
        return (found.word, found.keeping, found.breaking, found.table)

    def test_sure(self):
        watch = ~Watch.never(OWN)
        pairs = (((0, (0,), (0,)), 0), ((0, (1,), (1,)), 0), ((1, (1,), (1,)), 0), ((0, (0,), (0,)), 1),
                 ((1, (0,), (0,)), 1), ((0, (1,), (1,)), 1), ((1, (1,), (1,)), 1))
        self.same(self.fields(ROUND, watch), ("sure", (("in", ADA, 1), OWN), None, pairs))

    def test_never(self):
        found = self.fields(ROUND, Watch.never(OWN))
        self.same(found, ("never", None, (("in", ADA, 1), OWN), self.fields(ROUND, ~Watch.never(OWN))[3]))

    def test_open(self):
        twice = Watch([(0, OWN, 1), (1, OWN, 2)], [2])
        self.same(self.fields(ROUND, twice), (
            "open", (("in", ADA, 0), OWN, ("in", ADA, 1), OWN), (("in", ADA, 1), OWN), (),
        ))

    def test_none(self):
        custom = Custom(LONE, [(0, ADA, 0)], [1])
        self.same(self.fields(custom, Watch.never(OWN)), (
            "none", None, None, (((0, (0,), (0,)), 0), ((0, (1,), (1,)), 0), ((0, (0,), (0,)), 1), ((0, (1,), (1,)), 1)),
        ))
        self.same(self.fields(Custom(LONE, [], []), Watch([], [])), ("none", None, None, (((0, (0,), (0,)), 0),)))

    def test_the_empty_long_evening(self):
        self.same(self.fields(Custom(LONE, [], [0]), Watch([], [0])), ("sure", (), None, (((0, (0,), (0,)), 0),)))
        self.same(self.fields(Custom(LONE, [], [0]), Watch([], [1])), ("never", None, (), (((0, (0,), (0,)), 0),)))
        found = self.fields(TURNS, Watch.never(("in", ADA)))
        self.same(found[:2], ("open", ()))
        self.same(found[2], (("in", ADA, 1), ("in", BOB, 0), OWN, ("out", BOB, BOB)))

    def test_the_first_long_evenings_in_order(self):
        watch = Watch.follows(("out", BOB, ADA), ("in", ADA))
        found = custom_verdict(TURNS, ~watch)
        every = long_evenings(TURNS, 6)
        self.same(found.keeping, [moves for moves in every if not watch(moves)][0])
        self.same(found.breaking, [moves for moves in every if watch(moves)][0])
        # Of several of the same length, the order of moves decides.
        watch = Watch.never(("in", BOB))
        found = custom_verdict(TURNS, watch)
        broken = [moves for moves in every if len(moves) == len(found.breaking) and not watch(moves)]
        self.same(found.breaking, broken[0])
        self.assertGreater(len(broken), 1)

    def test_all_small_customs(self):
        words = []
        for custom, watch in customs_and_watches(220):
            found = custom_verdict(custom, watch)
            word = plain_word(custom, watch)
            words.append(word)
            self.same(found.word, word)
            pairs = plain_pairs(custom, watch)
            self.same(found.table, () if word == "open" else tuple(pairs))
            for evening, is_kept in ((found.keeping, True), (found.breaking, False)):
                self.assertEqual(evening is None, word in ("none", "never" if is_kept else "sure"))
                if evening is not None:
                    self.assertTrue(is_long_evening(custom, evening))
                    if len(evening) <= 6:
                        every = [moves for moves in long_evenings(custom, len(evening))
                                 if (plain_state(watch, moves) in watch.good) == is_kept]
                        self.same(evening, every[0])
        self.assertGreater(min([words.count(word) for word in ("none", "sure", "never", "open")]), 10)

    def test_many_conditions(self):
        house = crowd(4).with_pegs(3)
        custom = Custom(house, [(state, kind, (state + 1) % 10) for state in range(10) for kind in house], [0])
        rules = [(state, ("out", "g0", "g0"), state + 1) for state in range(9)]
        with within(60):
            found = custom_verdict(custom, Watch(rules, [9]))
        self.same(found.word, "open")
        self.same(found.breaking, ())
        # Ten guests must come, of whom nine would do; but the moves of the first kind come first in order.
        self.same(len([move for move in found.keeping if move == ("out", "g0", "g0")]), 10)


class Tables(PromiseCase):
    def test_the_table_of_the_verdict(self):
        for custom, watch in customs_and_watches(120):
            found = custom_verdict(custom, watch)
            pairs = plain_pairs(custom, watch)
            self.assertIs(is_custom_table(custom, watch, pairs), found.word in ("none", "sure"))
            self.assertIs(is_custom_table(custom, ~watch, pairs), found.word in ("none", "never"))
            if found.word == "sure":
                self.assertIs(is_custom_table(custom, watch, found.table), True)
                self.assertIs(is_custom_table(custom, watch, listed(found.table[::-1] + found.table)), True)
                for at in range(len(pairs)):
                    self.assertIs(is_custom_table(custom, watch, found.table[:at] + found.table[at + 1:]), False)

    def test_tables(self):
        watch = ~Watch.never(OWN)
        table = custom_verdict(ROUND, watch).table
        self.same([is_custom_table(ROUND, watch, table), is_custom_table(ROUND, watch, ())], [True, False])
        # Nothing leads out of these pairs, but the pair of the beginning is missing.
        self.same(is_custom_table(ROUND, watch, table[3:]), False)
        # A pair that does not come about: it is looked at like all others.
        self.same(is_custom_table(ROUND, Watch(watch.rules, [1]), table), True)
        self.same(is_custom_table(ROUND, Watch(watch.rules, [1]), table + (((1, (0,), (0,)), 7),)), False)
        self.same(is_custom_table(ROUND, Watch(watch.rules, [1, 7]), table + (((1, (0,), (0,)), 7),)), True)
        self.same(is_custom_table(ROUND, Watch(watch.rules, [1, 7]), table + (((1, (1,), (1,)), 7),)), False)
        self.same(is_custom_table(ROUND, Watch(watch.rules, [1, 7]), (((1, (1,), (1,)), 7), ((1, (0,), (0,)), 7)) + table), True)
        # A state of the custom to which nothing leads, and one that is no end.
        self.same(is_custom_table(ROUND, watch, table + (((8, [0], [0]), 0),)), True)
        self.same(is_custom_table(ROUND, watch, table + (((8, (1,), (1,)), 0),)), False)

    def test_kinds_with_brought_cloaks(self):
        custom = Custom(DEEP.bringing([BOB, ADA]), [(0, ADA, 0), (0, BOB, 0)], [0])
        watch = Watch.never(("out", ADA, ADA))
        table = custom_verdict(custom, Watch([], [0])).table
        self.same(len(table), len(plain_reached(custom)))
        self.same(is_custom_table(custom, Watch([], [0]), table), True)
        self.same(is_custom_table(custom, watch, table), False)
        self.same(len(custom_moves(custom, table[0][0])), 2)
