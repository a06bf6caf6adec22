"""Points 30 and 31: closed levels, and what the hurried evening tells."""

from itertools import combinations_with_replacement, product

from leavetaking.cases import Case
from leavetaking.houses import House
from leavetaking.hurrying import hurry
from leavetaking.levels import gone_at, is_closed, least_come, waiting

from tests.helpers import (
    ADA, BOB, CLEO, GUESTS, PromiseCase, TURNED, TURNED_BOOK, come_at, crowd, fitting_case, listed, plain_bars,
    plain_closed, plain_events, sample_houses, some_cases,
)

IN_ADA, IN_BOB, IN_CLEO = [("in", guest) for guest in GUESTS]
OUT_ADA, OUT_BOB, OUT_CLEO = [("out", guest) for guest in GUESTS]
SMALL = [pair for pair in sample_houses() if len(pair[0]) < 3] + [(TURNED.with_pegs(2), TURNED_BOOK)]


class Closed(PromiseCase):
    def check(self, case, levels, come, due):
        self.same(is_closed(case, levels, come), due)
        self.same(is_closed(case, listed(levels), come), due)

    def test_closed_levels_that_bar_a_coming(self):
        # bob can leave with one guest come, and then nobody until ada has left, which it never does.
        case = Case(House(GUESTS), (BOB, ADA, CLEO), GUESTS, [("after", IN_CLEO, 1, (OUT_ADA,)), ("chose", ADA, 0)])
        self.check(case, (None, 1, None), 2, True)
        self.check(case, (None, 0, None), 2, True)
        self.check(case, (None, 0, 0), 2, True)
        # At 1 and at 2 bob is not in the lot, but it may leave.
        self.check(case, (None, 2, None), 2, False)
        self.check(case, (None, None, None), 2, False)
        # With ada in the lot cleo may come, even though nobody may leave.
        self.check(case, (2, 1, None), 2, False)
        self.check(case, (3, 1, None), 2, True)
        # Up to 1 the levels are closed, but then ada may come.
        self.check(case, (None, 1, None), 1, False)
        # With all come nobody else may leave either, as long as ada's cloak hangs; without it cleo may.
        self.check(case, (None, 1, None), 3, True)
        self.check(case, (3, 1, None), 3, False)
        self.check(case, (None, 1, 3), 3, True)
        self.check(case, (3, 1, 3), 3, False)

    def test_all_have_come(self):
        case = Case(House(GUESTS), GUESTS, GUESTS, [("before", OUT_ADA, OUT_CLEO), ("before", OUT_CLEO, OUT_ADA)])
        # bob likes ada's cloak better, which hangs as long as ada is there.
        self.check(case, (None, None, None), 3, True)
        self.check(case, (None, None, None), 2, False)
        self.check(case, (None, 3, None), 3, True)
        self.check(case, (None, None, 3), 3, False)
        self.check(case, (3, 3, 3), 3, False)

    def test_nobody_has_come(self):
        case = Case(House(GUESTS), GUESTS, GUESTS, [("before", OUT_BOB, IN_ADA)])
        self.check(case, (None, None, None), 0, True)
        self.check(case, (3, 3, 3), 0, True)
        self.check(case, (1, 1, 1), 0, True)
        self.check(case, (None, 0, None), 0, False)
        self.check(case, (0, None, 0), 0, True)
        # Up to 1 they are not closed: ada may leave, if it is taken as come.
        self.check(case, (None, None, None), 1, False)
        free = Case(House(GUESTS), GUESTS, GUESTS, [])
        for levels in product((None, 0, 1, 2, 3), repeat=3):
            self.check(free, levels, 0, False)

    def test_levels_of_a_whole_evening_do_not_bar_the_end(self):
        for case in some_cases(20):
            hurried = hurry(case)
            for come in range(hurried.come + 1):
                self.check(case, hurried.levels, come, not hurried.whole and come == hurried.come)

    def test_pegs_bar_a_coming(self):
        case = Case(House(GUESTS, pegs=1), GUESTS, (BOB, ADA, CLEO), [])
        self.check(case, (None, None, None), 1, True)
        self.check(Case(House(GUESTS, pegs=2), GUESTS, (BOB, ADA, CLEO), []), (None, None, None), 1, False)

    def test_all_levels_of_small_houses(self):
        many = 0
        for case in some_cases(3, SMALL):
            count = len(case.house)
            none_fits = not fitting_case(case)
            for levels in product([None] + list(range(count + 1)), repeat=count):
                for come in range(count + 1):
                    due = plain_closed(case, levels, come)
                    self.same(is_closed(case, levels, come), due)
                    if due:
                        many += 1
                        self.assertTrue(none_fits)
        self.assertGreater(many, 100)

    def test_levels_of_hurried_evenings_against_other_cases(self):
        cases = list(some_cases(12, [(House(GUESTS, pegs=2), (BOB, ADA, CLEO)), (TURNED, TURNED_BOOK)]))
        for case in cases:
            for other in cases:
                hurried = hurry(other)
                for come in range(4):
                    due = plain_closed(case, hurried.levels, come)
                    self.same(is_closed(case, hurried.levels, come), due)
                    if due:
                        self.assertEqual(fitting_case(case), [])

    def test_numbers_somewhat_beyond_the_bounds_raise_no_error(self):
        case = Case(House(GUESTS), GUESTS, GUESTS, [("before", OUT_BOB, IN_ADA)])
        self.assertIsInstance(is_closed(case, (None, 4, None), 4), bool)
        self.assertIsInstance(is_closed(case, (None, 4, -1), -1), bool)


class Waiting(PromiseCase):
    def test_whole(self):
        self.same(waiting(Case(House(GUESTS), GUESTS, GUESTS, [])), ())

    def test_not_whole(self):
        case = Case(House(GUESTS), (BOB, ADA, CLEO), GUESTS, [("after", IN_CLEO, 1, (OUT_ADA,)), ("chose", ADA, 0)])
        self.same(waiting(case), (
            (IN_CLEO, (("fact", 0),)),
            (OUT_ADA, (("fact", 1),)),
            (OUT_CLEO, (("turn",), ("cloak",), ("depth",))),
        ))

    def test_nothing_happened(self):
        case = Case(House(GUESTS), (CLEO, BOB, ADA), GUESTS, [("before", OUT_BOB, IN_CLEO)])
        self.same(waiting(case), (
            (IN_ADA, (("turn",),)),
            (IN_BOB, (("turn",),)),
            (IN_CLEO, (("fact", 0),)),
            (OUT_ADA, (("turn",), ("cloak",))),
            (OUT_BOB, (("turn",), ("cloak",))),
            (OUT_CLEO, (("turn",), ("cloak",))),
        ))

    def test_as_the_point_tells(self):
        for case in some_cases(40):
            hurried = hurry(case)
            happened = [step[:2] for step in hurried.steps]
            gone = [guest for word, guest in happened if word == "out"]
            due = [(event, plain_bars(case, hurried.come, gone, event)) for event in plain_events(case.house)
                   if event not in happened]
            self.same(waiting(case), tuple(due))
            self.assertTrue(all(found for _, found in due))


class Least(PromiseCase):
    def test_least_come(self):
        case = Case(House(GUESTS), GUESTS, (BOB, ADA, CLEO), [("before", IN_CLEO, OUT_ADA)])
        for guests, due in (((), 0), ((BOB,), 2), ((ADA,), 3), ((BOB, BOB), 2), ((BOB, ADA, BOB), 3), (GUESTS, 3)):
            self.same(least_come(case, guests), due)
            self.same(least_come(case, list(guests)), due)

    def test_no_evening(self):
        case = Case(House(GUESTS), GUESTS, GUESTS, [("chose", CLEO, 0)])
        for guests in ((), (ADA,), (CLEO,), (CLEO, CLEO)):
            self.assertIsNone(least_come(case, guests))

    def test_against_all_evenings(self):
        for case in some_cases(30):
            found = fitting_case(case)
            for many in range(4):
                for guests in combinations_with_replacement(case.house.guests, many):
                    counts = [max([come_at(evening, guest) for guest in guests], default=0) for evening in found]
                    self.same(least_come(case, guests), min(counts, default=None))


class Gone(PromiseCase):
    def test_gone_at(self):
        case = Case(House(GUESTS), (CLEO, ADA, BOB), (BOB, ADA, CLEO), [])
        for come, due in ((0, ()), (1, (CLEO,)), (2, (CLEO,)), (3, GUESTS)):
            self.same(gone_at(case, come), due)

    def test_not_whole(self):
        case = Case(House(GUESTS), (BOB, ADA, CLEO), GUESTS, [("after", IN_CLEO, 1, (OUT_ADA,)), ("chose", ADA, 0)])
        for come, due in ((0, ()), (1, (BOB,)), (2, (BOB,)), (3, (BOB,))):
            self.same(gone_at(case, come), due)

    def test_nobody_leaves(self):
        case = Case(House(GUESTS), GUESTS, GUESTS, [("before", OUT_ADA, IN_ADA)])
        self.same([gone_at(case, come) for come in range(4)], [()] * 4)

    def test_against_all_evenings(self):
        for case in some_cases(30):
            found = fitting_case(case)
            for come in range(len(case.house) + 1):
                gone = gone_at(case, come)
                hurried = hurry(case)
                due = [guest for guest, level in zip(case.house, hurried.levels) if level is not None and level <= come]
                self.same(gone, tuple(due))
                for evening in found:
                    left = [guest for guest in case.house if come_at(evening, guest) <= come]
                    self.assertLessEqual(set(left), set(gone))

    def test_numbers_somewhat_beyond_the_bounds_raise_no_error(self):
        case = Case(House(GUESTS), GUESTS, GUESTS, [])
        self.same((gone_at(case, -1), gone_at(case, 4)), ((), GUESTS))

    def test_a_great_house(self):
        house = crowd(30)
        case = Case(house, house.guests, house.guests, [])
        self.same(gone_at(case, 17), house.guests[:17])
        self.same(least_come(case, ("g4", "g21", "g9")), 22)

