"""Points 10 and 11: standings and steps."""

from leavetaking.errors import BadBook, NotLet
from leavetaking.houses import House
from leavetaking.standings import START, after_step, hanging, next_steps, present

from tests.helpers import (
    ADA, BOB, CLEO, GUESTS, PromiseCase, TURNED, TURNED_BOOK, TURNED_EVENING, crowd, plain_evenings, sample_houses,
    state_at, step_rank,
)


class Standings(PromiseCase):
    def test_start(self):
        self.same(START, (0, ()))

    def test_what_hangs_and_who_is_there_at_the_start(self):
        for house, book in sample_houses():
            self.same(hanging(house, book, START), ())
            self.same(present(house, book, START), ())
            self.same(next_steps(house, book, START), (("in", book[0]),))

    def test_house_order_whatever_the_book(self):
        house = House(GUESTS, brings=[BOB, CLEO, ADA])
        book = (CLEO, BOB, ADA)
        self.same(hanging(house, book, (2, ())), (ADA, CLEO))
        self.same(present(house, book, (2, ())), (BOB, CLEO))
        self.same(hanging(house, book, (3, ())), GUESTS)
        self.same(present(house, book, (3, ())), GUESTS)

    def test_the_cloak_that_is_taken_is_gone_and_not_the_guests_own(self):
        house = House(GUESTS, brings=[BOB, CLEO, ADA])
        standing = (3, ((ADA, CLEO),))
        self.same(hanging(house, GUESTS, standing), (ADA, BOB))
        self.same(present(house, GUESTS, standing), (BOB, CLEO))
        standing = (2, ((ADA, CLEO), (BOB, BOB)))
        self.same(hanging(house, GUESTS, standing), ())
        self.same(present(house, GUESTS, standing), ())
        self.same(next_steps(house, GUESTS, standing), (("in", CLEO),))

    def test_standings_that_come_about_in_no_evening(self):
        # Nobody leaves in a cloak that is liked less, and three cloaks hang at one peg.
        house = House(GUESTS, pegs=1)
        self.same(hanging(house, GUESTS, (2, ((BOB, BOB),))), (ADA,))
        self.same(present(house, GUESTS, (2, ((BOB, BOB),))), (ADA,))
        self.same(next_steps(house, GUESTS, (2, ((BOB, BOB),))), (("out", ADA, ADA),))
        self.same(hanging(house, GUESTS, (3, ())), GUESTS)
        self.same(next_steps(house, GUESTS, (2, ())), (("out", ADA, ADA), ("out", BOB, ADA)))
        self.same(after_step(house, GUESTS, (2, ((ADA, BOB),)), ("out", BOB, ADA)), (2, ((ADA, BOB), (BOB, ADA))))
        self.same(next_steps(house, GUESTS, (3, ((ADA, CLEO), (BOB, BOB)))), (("out", CLEO, ADA),))

    def test_all_have_left(self):
        house = House([ADA, BOB])
        standing = (2, ((ADA, BOB), (BOB, ADA)))
        self.same(hanging(house, [ADA, BOB], standing), ())
        self.same(present(house, [ADA, BOB], standing), ())
        self.same(next_steps(house, [ADA, BOB], standing), ())

    def test_standings_of_thirty_guests(self):
        house = crowd(30)
        book = house.guests[::-1]
        self.same(hanging(house, book, (30, ())), house.guests)
        self.same(present(house, book, (2, ())), ("g28", "g29"))
        self.same(next_steps(house, book, (30, ())), tuple([("out", guest, "g0") for guest in house.guests]))


class NextSteps(PromiseCase):
    def test_the_coming_comes_first_and_then_guests_and_cloaks_in_house_order(self):
        house = House(GUESTS, worth=[1, 1, 1])
        self.same(next_steps(house, (CLEO, BOB, ADA), (2, ())), (
            ("in", ADA), ("out", BOB, BOB), ("out", BOB, CLEO), ("out", CLEO, BOB), ("out", CLEO, CLEO),
        ))

    def test_only_the_next_guest_of_the_book_may_come(self):
        house = House(GUESTS)
        for come, guest in ((0, CLEO), (1, ADA), (2, BOB)):
            comings = [step for step in next_steps(house, (CLEO, ADA, BOB), (come, ())) if step[0] == "in"]
            self.assertEqual(comings, [("in", guest)])
        self.assertEqual([step[0] for step in next_steps(house, (CLEO, ADA, BOB), (3, ()))], ["out"] * 3)

    def test_depth_1_takes_one_of_the_best(self):
        house = House(GUESTS, worth=[1, 2, 2])
        leavings = next_steps(house, GUESTS, (3, ((ADA, ADA),)))
        self.same(leavings, (("out", BOB, BOB), ("out", BOB, CLEO), ("out", CLEO, BOB), ("out", CLEO, CLEO)))
        self.same(next_steps(house, GUESTS, (3, ())), (
            ("out", ADA, BOB), ("out", ADA, CLEO), ("out", BOB, BOB), ("out", BOB, CLEO), ("out", CLEO, BOB),
            ("out", CLEO, CLEO),
        ))

    def test_greater_depths_take_more(self):
        for depth, cloaks in ((1, [ADA]), (2, [ADA, BOB]), (3, [ADA, BOB, CLEO]), (4, [ADA, BOB, CLEO])):
            house = House(GUESTS).choosing(BOB, depth)
            steps = next_steps(house, GUESTS, (3, ()))
            self.assertEqual([step[2] for step in steps if step[1] == BOB], cloaks)
            self.assertEqual([step[2] for step in steps if step[1] != BOB], [ADA, ADA])

    def test_depth_counts_only_cloaks_that_hang(self):
        house = House(GUESTS).choosing(ADA, 2)
        self.same(next_steps(house, GUESTS, (3, ((BOB, ADA), (CLEO, BOB)))), (("out", ADA, CLEO),))
        self.same(next_steps(house, (ADA, CLEO, BOB), (2, ())), (
            ("in", BOB), ("out", ADA, ADA), ("out", ADA, CLEO), ("out", CLEO, ADA),
        ))

    def test_depth_counts_cloaks_and_not_grades(self):
        # Two cloaks that are alike and liked better are two: the third one needs depth 3.
        house = House(GUESTS, worth=[2, 2, 1])
        for depth, cloaks in ((1, [ADA, BOB]), (2, [ADA, BOB]), (3, [ADA, BOB, CLEO])):
            steps = next_steps(house.choosing(CLEO, depth), GUESTS, (3, ()))
            self.assertEqual([step[2] for step in steps if step[1] == CLEO], cloaks)

    def test_pegs(self):
        house = House(GUESTS, pegs=2)
        self.assertIn(("in", BOB), next_steps(house, GUESTS, (1, ())))
        self.assertNotIn(("in", CLEO), next_steps(house, GUESTS, (2, ())))
        self.assertIn(("in", CLEO), next_steps(house, GUESTS, (2, ((BOB, ADA),))))
        self.assertIn(("in", CLEO), next_steps(house.with_pegs(3), GUESTS, (2, ())))
        self.assertNotIn(("in", BOB), next_steps(house.with_pegs(1), GUESTS, (1, ())))
        self.assertIn(("in", BOB), next_steps(house.with_pegs(1), GUESTS, (1, ((ADA, ADA),))))

    def test_every_standing_of_every_evening(self):
        for house, book in sample_houses():
            nexts = {}
            for evening in plain_evenings(house, book):
                for place in range(len(evening) + 1):
                    nexts.setdefault(evening[:place], {}).update({step: True for step in evening[place:place + 1]})
            for steps, further in nexts.items():
                _, room, hung = state_at(house, steps, len(steps))
                worn = {step[1]: step[2] for step in steps if step[0] == "out"}
                gone = tuple([(guest, worn[guest]) for guest in house.guests if guest in worn])
                standing = (len([step for step in steps if step[0] == "in"]), gone)
                self.same(hanging(house, book, standing), tuple(hung))
                self.same(present(house, book, standing), tuple(room))
                due = sorted(further, key=lambda step: step_rank(house, step))
                self.same(next_steps(house, book, standing), tuple(due))


class AfterStep(PromiseCase):
    def test_comings_and_leavings(self):
        self.same(after_step(TURNED, TURNED_BOOK, (0, ()), ("in", BOB)), (1, ()))
        self.same(after_step(TURNED, TURNED_BOOK, (2, ()), ("out", BOB, CLEO)), (2, ((BOB, CLEO),)))
        self.same(after_step(TURNED, TURNED_BOOK, (2, ((BOB, CLEO),)), ("in", CLEO)), (3, ((BOB, CLEO),)))

    def test_those_that_left_stand_in_house_order(self):
        house = House(GUESTS)
        standing = (3, ((ADA, ADA), (CLEO, BOB)))
        self.same(after_step(house, GUESTS, standing, ("out", BOB, CLEO)), (3, ((ADA, ADA), (BOB, CLEO), (CLEO, BOB))))
        standing = (3, ((CLEO, ADA),))
        self.same(after_step(house, GUESTS, standing, ("out", ADA, BOB)), (3, ((ADA, BOB), (CLEO, ADA))))

    def test_steps_that_are_not_let(self):
        house = House(GUESTS, pegs=2)
        wrong = (
            ((0, ()), ("in", BOB)),
            ((0, ()), ("out", ADA, ADA)),
            ((1, ()), ("in", ADA)),
            ((1, ()), ("in", CLEO)),
            ((1, ()), ("out", ADA, BOB)),
            ((1, ()), ("out", BOB, ADA)),
            ((2, ()), ("in", CLEO)),
            ((2, ()), ("out", ADA, BOB)),
            ((2, ((BOB, ADA),)), ("out", BOB, BOB)),
            ((2, ((BOB, ADA),)), ("out", ADA, ADA)),
            ((3, ((ADA, ADA), (BOB, BOB), (CLEO, CLEO))), ("in", ADA)),
            ((3, ((ADA, ADA), (BOB, BOB), (CLEO, CLEO))), ("out", CLEO, CLEO)),
        )
        for standing, step in wrong:
            self.assertNotIn(step, next_steps(house, GUESTS, standing))
            self.same(self.refused(NotLet, after_step, house, GUESTS, standing, step).step, step)
            error = self.refused(NotLet, after_step, house, GUESTS, standing, list(step))
            self.same(error.step, step)

    def test_steps_with_names_that_are_no_guests(self):
        house = House(GUESTS)
        for step in (("in", "zoe"), ("in", ""), ("out", "zoe", ADA), ("out", ADA, "zoe"), ("out", "", ""),
                     ("out", "a b", "A")):
            for standing in ((0, ()), (2, ()), (3, ((ADA, ADA),))):
                self.same(self.refused(NotLet, after_step, house, GUESTS, standing, step).step, step)

    def test_each_step_that_is_let_can_be_made(self):
        for house, book in sample_houses():
            for evening in plain_evenings(house, book)[:20]:
                standing = START
                for step in evening:
                    standing = after_step(house, book, standing, step)
                self.assertEqual(standing[0], len(house))
                self.same(standing[1], tuple([(step[1], step[2]) for guest in house.guests for step in evening
                                              if step[:2] == ("out", guest)]))


class BadBooks(PromiseCase):
    def test_bad_book_ahead_of_every_other_error(self):
        house = House(GUESTS)
        for book in ([], [ADA, BOB], [ADA, BOB, BOB], [ADA, BOB, "zoe"], [ADA, BOB, CLEO, CLEO]):
            for ask in (hanging, present, next_steps):
                self.refused(BadBook, ask, house, book, (0, ()))
            self.refused(BadBook, after_step, house, book, (0, ()), ("in", ADA))
            self.refused(BadBook, after_step, house, book, (0, ()), ("in", "zoe"))

    def test_the_evening_of_the_turned_house(self):
        standing = START
        for step in TURNED_EVENING:
            standing = after_step(TURNED, TURNED_BOOK, standing, step)
        self.same(standing, (3, ((ADA, BOB), (BOB, CLEO), (CLEO, ADA))))
