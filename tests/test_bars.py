"""Point 27: situations and bars."""

from itertools import permutations

from leavetaking.bars import bars
from leavetaking.cases import Case
from leavetaking.houses import House

from tests.helpers import (
    ADA, BOB, CLEO, GUESTS, PromiseCase, TURNED, TURNED_BOOK, TURNED_WEARING, crowd, listed, lots_from, plain_bars,
    plain_events, sample_houses, some_cases,
)

IN_ADA, IN_BOB, IN_CLEO = [("in", guest) for guest in GUESTS]
OUT_ADA, OUT_BOB, OUT_CLEO = [("out", guest) for guest in GUESTS]
TURN, PEGS, CLOAK, DEPTH = ("turn",), ("pegs",), ("cloak",), ("depth",)


class BarCase(PromiseCase):
    def check(self, case, come, gone, event, *due):
        """These are the bars, in whatever order the lot is passed."""
        for lot in permutations(gone):
            self.same(bars(case, come, lot, event), due)
            self.same(bars(case, come, listed(lot), listed(event)), due)


class Comings(BarCase):
    def test_turn(self):
        case = Case(House(GUESTS), TURNED_BOOK, GUESTS, [])
        for come, free in enumerate(TURNED_BOOK):
            for guest in GUESTS:
                self.check(case, come, (), ("in", guest), *(() if guest == free else (TURN,)))
        for guest in GUESTS:
            self.check(case, 3, (), ("in", guest), TURN)

    def test_who_is_taken_as_gone_may_come(self):
        self.check(Case(House(GUESTS), GUESTS, GUESTS, []), 1, (BOB, CLEO), IN_BOB)

    def test_pegs(self):
        # ada brings bob's cloak, in which bob leaves; bob brings cleo's, in which ada leaves.
        house = House(GUESTS, brings=(BOB, CLEO, ADA), pegs=1)
        case = Case(house, GUESTS, (CLEO, BOB, ADA), [])
        self.check(case, 0, (), IN_ADA)
        self.check(case, 1, (), IN_BOB, PEGS)
        self.check(case, 1, (ADA,), IN_BOB, PEGS)
        self.check(case, 1, (BOB,), IN_BOB)
        self.check(case, 2, (ADA,), IN_CLEO, PEGS)
        self.check(case, 2, (ADA, BOB), IN_CLEO)
        self.check(case, 2, (), IN_CLEO, PEGS)
        self.check(case, 2, (), IN_ADA, TURN, PEGS)
        case = Case(house.with_pegs(2), GUESTS, (CLEO, BOB, ADA), [])
        self.check(case, 1, (), IN_BOB)
        self.check(case, 2, (), IN_CLEO, PEGS)
        self.check(case, 2, (CLEO,), IN_CLEO, PEGS)
        self.check(case, 2, (ADA,), IN_CLEO)
        self.check(Case(house.with_pegs(None), GUESTS, GUESTS, []), 2, (), IN_CLEO)

    def test_no_pegs_in_leavings(self):
        case = Case(House(GUESTS, pegs=1), GUESTS, GUESTS, [])
        self.check(case, 3, (), OUT_ADA)
        self.check(case, 3, (), OUT_CLEO, DEPTH)


class Leavings(BarCase):
    def test_turn(self):
        case = Case(House(GUESTS), GUESTS, GUESTS, [])
        self.check(case, 1, (), OUT_ADA)
        self.check(case, 1, (ADA,), OUT_ADA, TURN)
        self.check(case, 0, (ADA,), OUT_ADA, TURN, CLOAK)

    def test_turn_and_cloak_together_and_apart(self):
        # ada leaves in the cloak that cleo brings, cleo in the one that bob brings.
        case = Case(House(GUESTS, worth=[1, 1, 1], brings=(BOB, CLEO, ADA)), GUESTS, (ADA, BOB, CLEO), [])
        self.check(case, 0, (), OUT_ADA, TURN, CLOAK)
        self.check(case, 1, (), OUT_ADA, CLOAK)
        self.check(case, 3, (), OUT_ADA)
        self.check(case, 3, (ADA,), OUT_ADA, TURN)
        self.check(case, 2, (), OUT_CLEO, TURN)
        self.check(case, 1, (), OUT_CLEO, TURN, CLOAK)

    def test_whether_the_cloak_hangs_is_no_bar_of_its_taker(self):
        # The cloak that the guest takes is taken by nobody else: only its bringer may be missing.
        case = Case(House(GUESTS), GUESTS, (BOB, ADA, CLEO), [])
        self.check(case, 2, (), OUT_BOB)
        self.check(case, 2, (ADA,), OUT_BOB)
        self.check(case, 2, (BOB,), OUT_ADA)

    def test_depth(self):
        case = Case(House(GUESTS), GUESTS, (CLEO, BOB, ADA), [])
        self.check(case, 3, (), OUT_CLEO)
        self.check(case, 3, (), OUT_BOB, DEPTH)
        self.check(case, 3, (CLEO,), OUT_BOB)
        self.check(case, 3, (CLEO,), OUT_ADA, DEPTH)
        self.check(case, 3, (BOB, CLEO), OUT_ADA)
        self.check(case, 1, (), OUT_ADA, CLOAK, DEPTH)
        self.check(case, 1, (ADA,), OUT_ADA, TURN, CLOAK, DEPTH)

    def test_greater_depths(self):
        case = Case(House(GUESTS).choosing(ADA, 2), GUESTS, (CLEO, BOB, ADA), [])
        self.check(case, 3, (), OUT_ADA, DEPTH)
        self.check(case, 3, (BOB,), OUT_ADA)
        self.check(case, 3, (), OUT_BOB, DEPTH)
        self.check(Case(House(GUESTS).choosing(ADA, 3), GUESTS, (CLEO, BOB, ADA), []), 3, (), OUT_ADA)

    def test_depth_goes_by_the_taste_of_the_guest(self):
        house = House(GUESTS).liking(ADA, [1, 1, 2])
        case = Case(house, GUESTS, (BOB, CLEO, ADA), [])
        self.check(case, 2, (), OUT_ADA)
        self.check(case, 3, (), OUT_ADA, DEPTH)
        self.check(case, 3, (BOB,), OUT_ADA)

    def test_what_may_happen_with_a_lot_may_happen_with_a_greater_one(self):
        for case in some_cases(6):
            for come in range(len(case.house) + 1):
                for lot in lots_from(case.house.guests):
                    for guest in [guest for guest in case.house if guest not in lot]:
                        if not bars(case, come, lot, ("out", guest)):
                            for more in lots_from(case.house.guests):
                                if guest not in more and set(lot) <= set(more):
                                    self.assertEqual(bars(case, come, more, ("out", guest)), ())


class Facts(BarCase):
    def case(self, *facts, house=None, wearing=GUESTS):
        return Case(House(GUESTS) if house is None else house, GUESTS, wearing, facts)

    def test_before(self):
        case = self.case(("before", OUT_BOB, OUT_ADA), ("before", IN_CLEO, IN_BOB), ("before", IN_CLEO, OUT_ADA))
        self.check(case, 1, (), OUT_ADA, ("fact", 0), ("fact", 2))
        self.check(case, 1, (BOB,), OUT_ADA, ("fact", 2))
        self.check(case, 3, (), OUT_ADA, ("fact", 0))
        self.check(case, 3, (BOB,), OUT_ADA)
        self.check(case, 1, (), IN_BOB, ("fact", 1))
        self.check(case, 2, (), OUT_BOB, DEPTH)
        self.check(case, 2, (ADA,), IN_CLEO)

    def test_bare(self):
        # ada leaves in bob's cloak and bob in ada's.
        case = self.case(("bare", OUT_CLEO, 2, GUESTS), ("bare", IN_CLEO, 1, (ADA,)), ("bare", OUT_CLEO, 0, ()),
                         wearing=(BOB, ADA, CLEO), house=House(GUESTS, worth=[1, 1, 1]))
        self.check(case, 3, (), OUT_CLEO, ("fact", 0), ("fact", 2))
        self.check(case, 3, (ADA,), OUT_CLEO, ("fact", 0), ("fact", 2))
        self.check(case, 3, (ADA, BOB), OUT_CLEO, ("fact", 2))
        self.check(case, 2, (ADA,), IN_CLEO, ("fact", 1))
        self.check(case, 2, (BOB,), IN_CLEO)
        self.check(case, 2, (), OUT_ADA)

    def test_bare_counts_by_bringers_and_takers(self):
        case = self.case(("bare", IN_CLEO, 1, (BOB,)), house=TURNED, wearing=(CLEO, ADA, BOB))
        self.check(case, 2, (), IN_CLEO, ("fact", 0))
        self.check(case, 2, (BOB,), IN_CLEO, ("fact", 0))
        self.check(case, 2, (CLEO,), IN_CLEO)
        self.check(case, 0, (), IN_CLEO, TURN)
        self.check(case, 1, (), IN_CLEO, TURN, ("fact", 0))

    def test_away(self):
        case = self.case(("away", OUT_CLEO, 2, GUESTS), ("away", OUT_CLEO, 1, (BOB,)), ("away", IN_CLEO, 0, (ADA,)),
                         house=House(GUESTS, worth=[1, 1, 1]))
        self.check(case, 3, (), OUT_CLEO, ("fact", 0), ("fact", 1))
        self.check(case, 3, (BOB,), OUT_CLEO, ("fact", 0))
        self.check(case, 3, (ADA,), OUT_CLEO, ("fact", 0), ("fact", 1))
        self.check(case, 3, (ADA, BOB), OUT_CLEO)
        self.check(case, 2, (ADA, BOB), IN_CLEO, ("fact", 2))
        # bob is in the room; that ada, which has not come, is taken as gone, does not matter.
        self.check(Case(case.house, (BOB, CLEO, ADA), GUESTS, case.facts), 2, (ADA,), OUT_CLEO,
                   ("fact", 0), ("fact", 1))

    def test_after(self):
        told = (IN_BOB, OUT_BOB, OUT_CLEO)
        case = self.case(*[("after", OUT_ADA, count, told) for count in range(5)])
        self.check(case, 1, (), OUT_ADA, *[("fact", index) for index in (1, 2, 3, 4)])
        self.check(case, 2, (), OUT_ADA, *[("fact", index) for index in (2, 3, 4)])
        self.check(case, 1, (CLEO,), OUT_ADA, *[("fact", index) for index in (2, 3, 4)])
        self.check(case, 2, (CLEO,), OUT_ADA, *[("fact", index) for index in (3, 4)])
        self.check(case, 2, (CLEO, BOB), OUT_ADA, ("fact", 4))
        self.check(case, 1, (), IN_BOB)

    def test_after_at_a_coming(self):
        case = self.case(("after", IN_BOB, 1, (OUT_ADA,)))
        self.check(case, 1, (), IN_BOB, ("fact", 0))
        self.check(case, 1, (ADA,), IN_BOB)
        self.check(case, 0, (), IN_BOB, TURN, ("fact", 0))

    def test_chose(self):
        case = self.case(*[("chose", CLEO, depth) for depth in range(4)], house=House(GUESTS).choosing(CLEO, 9))
        self.check(case, 3, (), OUT_CLEO, ("fact", 0), ("fact", 1), ("fact", 2))
        self.check(case, 3, (BOB,), OUT_CLEO, ("fact", 0), ("fact", 1))
        self.check(case, 3, (ADA, BOB), OUT_CLEO, ("fact", 0))
        self.check(case, 2, (), IN_CLEO)
        self.check(case, 1, (), OUT_ADA)

    def test_all_bars_of_a_leaving_in_order(self):
        case = self.case(
            ("chose", BOB, 1), ("after", OUT_ADA, 1, (OUT_BOB,)), ("before", IN_CLEO, OUT_BOB),
            ("away", OUT_BOB, 1, (ADA,)), ("bare", OUT_BOB, 1, (ADA,)), ("after", OUT_BOB, 2, (IN_ADA, OUT_ADA)),
            ("chose", BOB, 1), wearing=(ADA, CLEO, BOB),
        )
        facts = [("fact", index) for index in (0, 2, 3, 4, 5, 6)]
        self.check(case, 1, (), OUT_BOB, TURN, CLOAK, DEPTH, *facts)
        self.check(case, 2, (), OUT_BOB, CLOAK, DEPTH, *facts)
        self.check(case, 2, (BOB,), OUT_BOB, TURN, CLOAK, DEPTH, *facts)
        self.check(case, 2, (ADA,), OUT_BOB, CLOAK, DEPTH, *[("fact", index) for index in (0, 2, 6)])
        self.check(case, 2, (ADA, CLEO), OUT_BOB, CLOAK, ("fact", 2))
        self.check(case, 3, (ADA, CLEO), OUT_BOB)
        # cleo is taken as gone, and so is bob's cloak, in which it leaves: ada's hangs as before.
        self.check(case, 2, (CLEO,), OUT_BOB, CLOAK, DEPTH, *facts)

    def test_all_bars_of_a_coming_in_order(self):
        case = self.case(
            ("bare", IN_CLEO, 1, (ADA, BOB)), ("before", OUT_CLEO, OUT_ADA), ("away", IN_CLEO, 2, (ADA, BOB)),
            ("after", IN_CLEO, 1, (OUT_ADA, OUT_BOB)), ("before", OUT_ADA, IN_CLEO), house=House(GUESTS, pegs=2),
        )
        self.check(case, 2, (), IN_CLEO, PEGS, *[("fact", index) for index in (0, 2, 3, 4)])
        self.check(case, 1, (), IN_CLEO, TURN, *[("fact", index) for index in (0, 3, 4)])
        self.check(case, 3, (), IN_CLEO, TURN, PEGS, *[("fact", index) for index in (0, 2, 3, 4)])
        self.check(case, 2, (BOB,), IN_CLEO, *[("fact", index) for index in (0, 4)])
        self.check(case, 2, (ADA, BOB), IN_CLEO)


class AllSituations(BarCase):
    def test_every_situation_and_event(self):
        seen = set()
        for case in some_cases(12):
            for come in range(len(case.house) + 1):
                for lot in lots_from(case.house.guests):
                    for event in plain_events(case.house):
                        due = plain_bars(case, come, lot, event)
                        self.same(bars(case, come, lot, event), due)
                        seen.update([bar[0] for bar in due])
        self.assertEqual(seen, {"turn", "pegs", "cloak", "depth", "fact"})

    def test_houses_without_facts(self):
        for house, book in sample_houses():
            for wearing in permutations(house.guests):
                case = Case(house, book, wearing, [])
                for come in range(len(house) + 1):
                    for lot in lots_from(house.guests):
                        for event in plain_events(house):
                            self.assertEqual(bars(case, come, lot, event), plain_bars(case, come, lot, event))

    def test_a_great_house(self):
        house = crowd(30).with_pegs(20)
        case = Case(house, house.guests, house.guests[1:] + house.guests[:1], [])
        self.check(case, 30, ("g3", "g2"), ("out", "g4"), DEPTH)
        self.same(bars(case, 21, house.guests[:1], ("in", "g21")), (PEGS,))
        self.same(bars(case, 21, house.guests[:2], ("in", "g21")), ())

    def test_no_argument_is_changed(self):
        case = Case(TURNED, TURNED_BOOK, TURNED_WEARING, [])
        gone, event = [CLEO, ADA], ["out", BOB]
        bars(case, 2, gone, event)
        self.assertEqual((gone, event), ([CLEO, ADA], ["out", BOB]))
