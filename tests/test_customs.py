"""Points 88 and 89: customs, their conditions and their moves."""

from leavetaking.customs import Custom, custom_moves, custom_start
from leavetaking.errors import BadPegs, UnknownGuest
from leavetaking.houses import House

from tests.helpers import ADA, BOB, CLEO, PromiseCase, crowd, listed
from tests.helpers_customs import DEEP, TURNS, TWO, plain_moves, plain_reached, some_customs


class Customs(PromiseCase):
    def test_fields(self):
        custom = Custom(TWO, [[1, ADA, 0], (0, BOB, 1), [0, ADA, 3], (0, ADA, 2), (0, BOB, 1), (1, ADA, 0)], [3, 0, 3])
        self.same(custom.arrows, ((0, ADA, 2), (0, ADA, 3), (0, BOB, 1), (1, ADA, 0)))
        self.same(custom.ends, (0, 3))
        self.assertEqual(custom.house, TWO)
        empty = Custom(TWO, [], ())
        self.same((empty.arrows, empty.ends), ((), ()))

    def test_arrows_go_by_the_kind_in_house_order(self):
        house = House([CLEO, ADA], pegs=1)
        arrows = [(9, ADA, 0), (0, ADA, 1), (0, CLEO, 9), (0, CLEO, 2)]
        self.same(Custom(house, arrows, [9]).arrows, ((0, CLEO, 2), (0, CLEO, 9), (0, ADA, 1), (9, ADA, 0)))

    def test_errors(self):
        for house in (House([ADA, BOB]), crowd(3)):
            self.same(self.refused(BadPegs, Custom, house, [(0, "zoe", 1)], [0]).pegs, None)
            self.same(self.refused(BadPegs, Custom, house, [], []).pegs, None)
        for name in ("zoe", "", CLEO):
            arrows = [(0, ADA, 1), (0, name, 1), (1, "yan", 0)]
            self.same(self.refused(UnknownGuest, Custom, TWO, arrows, [0]).name, name)
        # The first arrow as they are passed, not as they are sorted.
        self.same(self.refused(UnknownGuest, Custom, TWO, [(5, "zoe", 1), (0, "yan", 1)], [0]).name, "zoe")

    def test_arguments_are_copied(self):
        arrows, ends = [[0, ADA, 1]], [1]
        custom = Custom(TWO, arrows, ends)
        arrows[0][1] = BOB
        arrows.clear()
        ends.append(0)
        self.same((custom.arrows, custom.ends), (((0, ADA, 1),), (1,)))
        self.same(custom_moves(custom, custom_start(custom)), ((("in", ADA, 1), (1, (1, 0), (1, 0))),))


class Moves(PromiseCase):
    def test_the_first_condition(self):
        self.same(custom_start(TURNS), (0, (0, 0), (0, 0)))
        self.same(custom_start(Custom(House([ADA], pegs=4), [], [])), (0, (0,), (0,)))

    def test_moves_in_order(self):
        arrows = [(0, BOB, 0), (0, ADA, 7), (0, ADA, 2), (1, ADA, 0)]
        custom = Custom(DEEP.with_pegs(3), arrows, [0])
        self.same(custom_moves(custom, (0, (1, 1), (1, 1))), (
            (("in", ADA, 2), (2, (2, 1), (2, 1))),
            (("in", ADA, 7), (7, (2, 1), (2, 1))),
            (("in", BOB, 0), (0, (1, 2), (1, 2))),
            (("out", ADA, ADA), (0, (0, 1), (0, 1))),
            (("out", BOB, ADA), (0, (0, 1), (1, 0))),
            (("out", BOB, BOB), (0, (1, 0), (1, 0))),
        ))
        self.same(custom_moves(custom, [1, [0, 0], [0, 0]]), ((("in", ADA, 0), (0, (1, 0), (1, 0))),))
        self.same(custom_moves(custom, (9, (0, 0), (0, 0))), ())

    def test_pegs(self):
        custom = Custom(TWO, [(0, ADA, 0)], [0])
        self.same(custom_moves(custom, (0, (1, 1), (2, 0))), ((("out", ADA, ADA), (0, (0, 1), (1, 0))),))
        self.same(custom_moves(custom, (0, (0, 1), (0, 1)))[0], (("in", ADA, 0), (0, (1, 1), (1, 1))))

    def test_each_better_cloak_is_counted(self):
        custom = Custom(House([ADA, BOB], pegs=4).choosing(BOB, 2), [], [0])
        self.same([move for move, _ in custom_moves(custom, (0, (1, 1), (0, 2)))], [("out", BOB, ADA), ("out", BOB, BOB)])
        self.same([move for move, _ in custom_moves(custom, (0, (2, 1), (0, 3)))], [("out", BOB, ADA)])
        self.same([move for move, _ in custom_moves(custom, (0, (0, 3), (0, 3)))], [("out", BOB, BOB)])

    def test_kinds_bring_what_brings_tells(self):
        custom = Custom(TWO.bringing([BOB, ADA]), [(0, ADA, 1)], [0])
        self.same(custom_moves(custom, custom_start(custom)), ((("in", ADA, 1), (1, (0, 1), (1, 0))),))
        # As many guests as cloaks, but of other kinds.
        self.same(custom_moves(custom, (1, (0, 1), (1, 0))), ((("out", ADA, BOB), (1, (0, 0), (0, 0))),))

    def test_all_conditions_of_small_customs(self):
        conditions = 0
        for custom in some_customs(120):
            for condition in plain_reached(custom)[:60]:
                found = custom_moves(custom, listed(condition))
                self.same(found, tuple(plain_moves(custom, condition)))
                conditions += len(found) > 3
        self.assertGreater(conditions, 30)
