"""Point 96: long evenings with names."""

from leavetaking.customs import Custom
from leavetaking.errors import BadStep, NoEvening
from leavetaking.evenings import is_evening
from leavetaking.houses import House
from leavetaking.longevenings import is_long_evening
from leavetaking.unrolling import unrolled

from tests.helpers import ADA, BOB, CLEO, PromiseCase, listed
from tests.helpers_customs import DEEP, TURNS, TWO, long_evenings, some_customs

LONE = House([ADA], pegs=1)
ONE = Custom(LONE, [(0, ADA, 0)], [0])
FREE = Custom(DEEP.with_pegs(4), [(0, ADA, 0), (0, BOB, 0)], [0])


def plain_unrolled(custom, moves):
    """The triple, read off point 96."""
    house = custom.house
    kinds = [move[1] for move in moves if move[0] == "in"]
    names = [f"g{number}" for number in range(len(kinds))]
    cloak_kinds = [house.brings[house.guests.index(kind)] for kind in kinds]
    named = House(names, pegs=house.pegs)
    for name, kind in zip(names, kinds):
        named = named.liking(name, [house.taste(kind)[house.guests.index(cloak)] for cloak in cloak_kinds])
        named = named.choosing(name, house.depth(kind))
    come, gone, taken, steps = 0, [], [], []
    for move in moves:
        if move[0] == "in":
            steps.append(("in", names[come]))
            come += 1
        else:
            guest = [at for at in range(come) if at not in gone and kinds[at] == move[1]][0]
            cloak = [at for at in range(come) if at not in taken and cloak_kinds[at] == move[2]][0]
            gone.append(guest)
            taken.append(cloak)
            steps.append(("out", names[guest], names[cloak]))
    return named, tuple(names), tuple(steps)


class Unrolling(PromiseCase):
    def check(self, custom, moves):
        house, book, evening = unrolled(custom, moves)
        due = plain_unrolled(custom, moves)
        self.assertEqual(house, due[0])
        self.same((book, evening), due[1:])
        self.same(house.brings, house.guests)
        self.same(is_evening(house, book, evening), True)

    def test_who_leaves_first_and_in_which_cloak(self):
        moves = (("in", BOB, 0), ("in", ADA, 0), ("in", BOB, 0), ("out", BOB, BOB), ("in", ADA, 0), ("out", ADA, ADA),
                 ("out", BOB, BOB), ("out", ADA, ADA))
        house, book, evening = unrolled(FREE, moves)
        self.same(book, ("g0", "g1", "g2", "g3"))
        self.same(house.guests, book)
        self.same(evening, (("in", "g0"), ("in", "g1"), ("in", "g2"), ("out", "g0", "g0"), ("in", "g3"),
                            ("out", "g1", "g1"), ("out", "g2", "g2"), ("out", "g3", "g3")))
        self.same([house.taste(guest) for guest in house], [(1, 2, 1, 2)] * 4)
        self.same([house.depth(guest) for guest in house], [3, 1, 3, 1])
        self.same(house.pegs, 4)
        self.check(FREE, moves)

    def test_cloaks_that_are_not_the_own_kind(self):
        house = House([ADA, BOB], brings=[BOB, ADA], pegs=3).liking(BOB, [-4, 10 ** 30]).choosing(ADA, 2)
        custom = Custom(house, [(0, ADA, 0), (0, BOB, 1), (1, BOB, 0)], [0])
        moves = (("in", ADA, 0), ("in", BOB, 1), ("in", BOB, 0), ("out", BOB, BOB), ("out", ADA, ADA), ("out", BOB, ADA))
        named, book, evening = unrolled(custom, listed(moves))
        # ada's kind brings bob's cloaks: the first one that bob's kind takes is the cloak of g0.
        self.same(evening[3:], (("out", "g1", "g0"), ("out", "g0", "g1"), ("out", "g2", "g2")))
        self.same([named.taste(guest) for guest in named], [(1, 2, 2), (10 ** 30, -4, -4), (10 ** 30, -4, -4)])
        self.same((named.brings, named.depth("g0"), named.depth("g1")), (("g0", "g1", "g2"), 2, 1))
        self.check(custom, moves)

    def test_errors(self):
        moves = (("in", ADA, 1), ("in", BOB, 0), ("out", BOB, ADA), ("out", ADA, BOB))
        self.check(TURNS, moves)
        for custom in (TURNS, Custom(DEEP, [], [])):
            self.refused(NoEvening, unrolled, custom, ())
        for many in (1, 2, 3):
            self.refused(NoEvening, unrolled, TURNS, moves[:many])
        self.refused(NoEvening, unrolled, TURNS, (("in", ADA, 1), ("out", ADA, ADA)))
        # A step that is not let comes ahead of moves that are no long evening.
        for wrong in (("in", "zoe", 0), ("in", ADA, 0), ("out", "zoe", ADA), ("out", BOB, "zoe"), ("in", ADA, 9)):
            for at in range(4):
                self.same(self.refused(BadStep, unrolled, TURNS, moves[:at] + (wrong,) + moves[at:]).index, at)
                self.same(self.refused(BadStep, unrolled, TURNS, moves[:at] + (wrong,)).index, at)

    def test_thirty_guests(self):
        moves = (("in", ADA, 0), ("out", ADA, ADA)) * 30
        house, book, evening = unrolled(ONE, moves)
        self.same(book, tuple([f"g{number}" for number in range(30)]))
        self.same(evening[-2:], (("in", "g29"), ("out", "g29", "g29")))
        self.check(ONE, moves)

    def test_all_small_customs(self):
        seen = 0
        for custom in some_customs(90):
            for moves in long_evenings(custom, 6)[:60]:
                self.assertTrue(is_long_evening(custom, moves))
                if moves:
                    self.check(custom, moves)
                    seen += 1
                else:
                    self.refused(NoEvening, unrolled, custom, moves)
        self.assertGreater(seen, 300)

    def test_kinds_that_nobody_is_of(self):
        custom = Custom(House([CLEO, ADA, BOB], pegs=2).choosing(ADA, 2), [(0, ADA, 0)], [0])
        self.check(custom, (("in", ADA, 0), ("in", ADA, 0), ("out", ADA, ADA), ("out", ADA, ADA)))
        self.same(unrolled(custom, (("in", ADA, 0), ("out", ADA, ADA)))[0].taste("g0"), (2,))
        self.same(TWO.pegs, 2)
