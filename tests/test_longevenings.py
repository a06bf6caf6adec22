"""Points 89 and 90: long evenings, and what is reached and live."""

from leavetaking.customs import Custom
from leavetaking.errors import BadStep
from leavetaking.houses import House
from leavetaking.longevenings import custom_walk, is_long_evening, live, reached

from tests.helpers import ADA, BOB, PromiseCase, crowd, listed, within
from tests.helpers_customs import (
    DEEP, TURNS, TWO, long_evenings, plain_ends, plain_live, plain_moves, plain_reached, some_customs,
)

START = (0, (0, 0), (0, 0))
WHOLE = (("in", ADA, 1), ("in", BOB, 0), ("out", BOB, ADA), ("out", ADA, BOB))


class Walks(PromiseCase):
    def test_conditions(self):
        self.same(custom_walk(TURNS, WHOLE), (
            START, (1, (1, 0), (1, 0)), (0, (1, 1), (1, 1)), (0, (0, 1), (1, 0)), (0, (0, 0), (0, 0)),
        ))
        self.same(custom_walk(TURNS, listed(WHOLE[:2])), (START, (1, (1, 0), (1, 0)), (0, (1, 1), (1, 1))))
        self.same(custom_walk(TURNS, ()), (START,))

    def test_moves_that_are_not_let(self):
        strange = (("in", "zoe", 0), ("out", "zoe", ADA), ("out", ADA, "zoe"), ("out", "", ""))
        wrong = (("in", ADA, 0), ("in", BOB, 1), ("in", ADA, 9), ("out", ADA, BOB))
        for move in strange + wrong:
            for at in range(3):
                moves = WHOLE[:at] + (move,) + WHOLE[at:]
                self.same(self.refused(BadStep, custom_walk, TURNS, moves).index, at)
                self.same(self.refused(BadStep, custom_walk, TURNS, listed(moves)).index, at)
                self.assertIs(is_long_evening(TURNS, moves), False)
        # The first one of two.
        self.same(self.refused(BadStep, custom_walk, TURNS, WHOLE[:1] + strange[:2]).index, 1)
        self.same(self.refused(BadStep, custom_walk, TURNS, WHOLE + (("out", ADA, ADA),)).index, 4)

    def test_long_evenings(self):
        self.same(is_long_evening(TURNS, WHOLE), True)
        self.same(is_long_evening(TURNS, listed(WHOLE + WHOLE)), True)
        self.same([is_long_evening(TURNS, WHOLE[:many]) for many in range(5)], [True, False, False, False, True])
        # Nobody is in the room, but the state is not one in which the evening may end.
        self.same(is_long_evening(TURNS, (("in", ADA, 1), ("out", ADA, ADA))), False)
        self.same(is_long_evening(Custom(DEEP, TURNS.arrows, [1]), (("in", ADA, 1), ("out", ADA, ADA))), True)
        self.same(is_long_evening(Custom(DEEP, TURNS.arrows, [1]), ()), False)
        self.same(is_long_evening(Custom(DEEP, [], []), ()), False)

    def test_all_small_customs(self):
        sizes = set()
        for custom in some_customs(60):
            evenings = long_evenings(custom, 5)
            sizes.add(len(evenings) > 3)
            for moves in evenings[:40]:
                self.assertIs(is_long_evening(custom, moves), True)
                self.assertEqual(custom_walk(custom, moves)[0][0], 0)
                self.assertIs(is_long_evening(custom, moves[:-1]), moves[:-1] in evenings)
        self.assertEqual(sizes, {True, False})

    def test_long_ones(self):
        with within(20):
            custom = Custom(DEEP, [(0, ADA, 0), (0, BOB, 0)], [0])
            moves = (("in", ADA, 0), ("out", ADA, ADA)) * 30
            self.same(is_long_evening(custom, moves), True)
            self.assertEqual(len(custom_walk(custom, moves)), 61)


class Conditions(PromiseCase):
    def test_reached(self):
        self.same(reached(TURNS), (
            START, (1, (1, 0), (1, 0)), (0, (1, 1), (1, 1)), (1, (0, 0), (0, 0)), (0, (0, 1), (0, 1)),
            (0, (0, 1), (1, 0)), (0, (1, 0), (1, 0)), (1, (1, 1), (1, 1)), (1, (1, 1), (2, 0)), (1, (2, 0), (2, 0)),
            (1, (0, 1), (0, 1)), (1, (0, 1), (1, 0)), (0, (0, 2), (0, 2)), (0, (0, 2), (1, 1)),
        ))
        self.same(reached(Custom(TWO, [], [0])), (START,))
        self.same(reached(Custom(TWO, [(1, ADA, 0)], [0])), (START,))

    def test_live(self):
        self.same(live(TURNS), reached(TURNS))
        # In the state 2 nobody comes any more, and the evening may not end.
        custom = Custom(House([ADA], pegs=1), [(0, ADA, 1), (0, ADA, 2), (1, ADA, 0)], [1])
        self.same(reached(custom), (
            (0, (0,), (0,)), (1, (1,), (1,)), (2, (1,), (1,)), (1, (0,), (0,)), (2, (0,), (0,)), (0, (1,), (1,)),
        ))
        self.same(live(custom), ((0, (0,), (0,)), (1, (1,), (1,)), (1, (0,), (0,)), (0, (1,), (1,))))
        self.same(live(Custom(TWO, [(0, ADA, 0)], [5])), ())
        self.same(live(Custom(TWO, [(0, ADA, 0)], [])), ())
        self.same(live(Custom(TWO, [(0, ADA, 1)], [0])), (START,))

    def test_all_small_customs(self):
        partly = 0
        for custom in some_customs(100):
            due = plain_reached(custom)
            alive = plain_live(custom)
            self.same(reached(custom), tuple(due))
            self.same(live(custom), tuple(alive))
            partly += 0 < len(alive) < len(due)
            for condition in alive:
                self.assertTrue(plain_ends(custom, condition) or any(after in alive for _, after in plain_moves(custom, condition)))
        self.assertGreater(partly, 5)

    def test_four_kinds_and_pegs(self):
        house = crowd(4).with_pegs(4)
        for kind in house.guests:
            house = house.choosing(kind, 4)
        custom = Custom(house, [(state, kind, (state + step) % 10) for state in range(10) for kind in house for step in (1, 4)], [3])
        with within(60):
            found = reached(custom)
            self.assertEqual(live(custom), found)
        self.assertEqual(len(found), len(set(found)))
        self.assertEqual({state for state, _, _ in found}, set(range(10)))
