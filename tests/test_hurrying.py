"""Points 28 and 29: the hurried evening."""

from random import Random

from leavetaking.bars import bars
from leavetaking.cases import Case
from leavetaking.evenings import is_evening, wearing_of
from leavetaking.hurrying import Hurry, hurry
from leavetaking.houses import House

from tests.helpers import (
    ADA, BOB, CLEO, GUESTS, PromiseCase, TURNED, TURNED_BOOK, come_at, crowd, fitting_case, plain_hurry, says,
    some_cases,
)


class HurryCase(PromiseCase):
    def check(self, case, steps, come, levels, whole):
        hurried = hurry(case)
        self.assertIsInstance(hurried, Hurry)
        self.same((hurried.steps, hurried.come, hurried.levels, hurried.whole), (steps, come, levels, whole))


class Hurried(HurryCase):
    def test_whole(self):
        case = Case(House(GUESTS), GUESTS, (BOB, ADA, CLEO), [])
        self.check(case, (
            ("in", ADA), ("in", BOB), ("out", BOB, ADA), ("out", ADA, BOB), ("in", CLEO), ("out", CLEO, CLEO),
        ), 3, (2, 2, 3), True)

    def test_the_first_guest_in_house_order_leaves_first(self):
        house = House([CLEO, ADA, BOB], worth=[1, 1, 1], brings=[ADA, BOB, CLEO])
        case = Case(house, (BOB, ADA, CLEO), (ADA, BOB, CLEO), [("before", ("in", CLEO), ("out", BOB))])
        self.check(case, (
            ("in", BOB), ("in", ADA), ("out", ADA, BOB), ("in", CLEO), ("out", CLEO, ADA), ("out", BOB, CLEO),
        ), 3, (3, 2, 3), True)

    def test_a_leaving_can_let_a_guest_further_ahead_leave(self):
        case = Case(House(GUESTS), GUESTS, (CLEO, BOB, ADA), [])
        self.check(case, (
            ("in", ADA), ("in", BOB), ("in", CLEO), ("out", CLEO, ADA), ("out", BOB, BOB), ("out", ADA, CLEO),
        ), 3, (3, 3, 3), True)

    def test_not_whole_because_of_a_fact(self):
        case = Case(House(GUESTS), (BOB, ADA, CLEO), GUESTS, [("after", ("in", CLEO), 1, (("out", ADA),)),
                                                              ("chose", ADA, 0)])
        self.check(case, (("in", BOB), ("out", BOB, BOB), ("in", ADA)), 2, (None, 1, None), False)

    def test_not_whole_though_all_came(self):
        case = Case(House(GUESTS), GUESTS, GUESTS, [("before", ("out", ADA), ("out", CLEO)),
                                                    ("before", ("out", CLEO), ("out", ADA))])
        self.check(case, (("in", ADA), ("in", BOB), ("in", CLEO)), 3, (None, None, None), False)

    def test_nothing_happens(self):
        case = Case(House(GUESTS), GUESTS, GUESTS, [("before", ("out", BOB), ("in", ADA))])
        self.check(case, (), 0, (None, None, None), False)

    def test_pegs(self):
        house = House(GUESTS, pegs=1)
        self.check(Case(house, GUESTS, GUESTS, []), (
            ("in", ADA), ("out", ADA, ADA), ("in", BOB), ("out", BOB, BOB), ("in", CLEO), ("out", CLEO, CLEO),
        ), 3, (1, 2, 3), True)
        self.check(Case(house, GUESTS, (BOB, ADA, CLEO), []), (("in", ADA),), 1, (None, None, None), False)
        self.check(Case(house.with_pegs(2), GUESTS, (BOB, CLEO, ADA), []), (("in", ADA), ("in", BOB)), 2,
                   (None, None, None), False)

    def test_brought_cloaks(self):
        # In TURNED ada brings bob's cloak, bob cleo's and cleo ada's; each leaves in the one that belongs to it.
        self.check(Case(TURNED, TURNED_BOOK, GUESTS, []), (
            ("in", BOB), ("in", ADA), ("out", BOB, BOB), ("in", CLEO), ("out", ADA, ADA), ("out", CLEO, CLEO),
        ), 3, (3, 2, 3), True)

    def test_greater_depths(self):
        case = Case(House(GUESTS).choosing(CLEO, 2), (ADA, CLEO, BOB), (ADA, BOB, CLEO), [
            ("before", ("in", CLEO), ("out", ADA)), ("before", ("out", CLEO), ("out", ADA)),
        ])
        self.check(case, (
            ("in", ADA), ("in", CLEO), ("out", CLEO, CLEO), ("out", ADA, ADA), ("in", BOB), ("out", BOB, BOB),
        ), 3, (2, 3, 2), True)
        case = Case(House(GUESTS), case.book, case.wearing, case.facts)
        self.check(case, (("in", ADA), ("in", CLEO), ("in", BOB)), 3, (None, None, None), False)

    def test_one_guest(self):
        self.check(Case(House([ADA]), [ADA], [ADA], []), (("in", ADA), ("out", ADA, ADA)), 1, (1,), True)
        self.check(Case(House([ADA]), [ADA], [ADA], [("chose", ADA, 0)]), (("in", ADA),), 1, (None,), False)

    def test_as_the_point_tells(self):
        for case in some_cases(60):
            self.check(case, *plain_hurry(case))

    def test_a_great_house(self):
        house = crowd(30).with_pegs(9)
        book = house.guests[7:] + house.guests[:7]
        case = Case(house, book, house.guests, [("before", ("in", "g3"), ("out", guest)) for guest in house.guests[:5]])
        self.check(case, *plain_hurry(case))
        self.assertIs(hurry(case).whole, True)
        case = Case(house.with_pegs(5), book, house.guests, case.facts)
        self.check(case, *plain_hurry(case))


class WhatFollows(HurryCase):
    def test_whole_if_and_only_if_an_evening_fits_and_the_earliest_one(self):
        whole = 0
        for case in some_cases(60):
            hurried = hurry(case)
            found = fitting_case(case)
            self.assertIs(hurried.whole, len(found) > 0, (case.book, case.wearing, case.facts))
            if found:
                whole += 1
                self.assertIn(hurried.steps, found)
                self.assertIs(is_evening(case.house, case.book, hurried.steps), True)
                self.assertEqual(wearing_of(case.house, hurried.steps), case.wearing)
                self.assertTrue(all(says(case.house, hurried.steps, fact) for fact in case.facts))
                for guest, level in zip(case.house.guests, hurried.levels):
                    self.assertEqual(level, min([come_at(evening, guest) for evening in found]))
        self.assertGreater(whole, 100)

    def test_in_whatever_order_those_who_may_leave_leave(self):
        draw = Random(7)
        for case in some_cases(30):
            due = hurry(case)
            for _ in range(3):
                come, levels = 0, {}
                while True:
                    may = [guest for guest in case.house if not bars(case, come, list(levels), ("out", guest))]
                    if may:
                        levels[draw.choice(may)] = come
                    elif come < len(case.house) and not bars(case, come, list(levels), ("in", case.book[come])):
                        come += 1
                    else:
                        break
                found = tuple([levels.get(guest) for guest in case.house])
                self.assertEqual((come, found), (due.come, due.levels))
