"""Points 69 to 71: situations at rest, open evenings and tables."""

from itertools import permutations
from random import Random

from leavetaking.evenings import is_evening
from leavetaking.houses import House
from leavetaking.opencases import OpenCase
from leavetaking.situations import is_open_table, open_evening, open_situations, rested

from tests.helpers import (
    ADA, BOB, CLEO, GUESTS, PromiseCase, crowd, fitting_open, listed, lots_from, open_samples, plain_open_bars, within,
)

HOUSE = House(GUESTS)
IN_ADA, IN_BOB, IN_CLEO = [("in", guest) for guest in GUESTS]
OUT_ADA, OUT_BOB, OUT_CLEO = [("out", guest) for guest in GUESTS]
# Nobody leaves ahead of cleo, and cleo comes when nobody is there: no evening fits.
BARRED = OpenCase(HOUSE, GUESTS, [("before", OUT_CLEO, OUT_ADA), ("before", OUT_CLEO, OUT_BOB),
                                  ("away", IN_CLEO, 1, GUESTS), ("before", IN_ADA, IN_CLEO)])
# The same situation can be reached in several ways.
FREE = OpenCase(HOUSE, (BOB, ADA, CLEO), [])


def may(case, come, gone, event):
    """Whether the event may happen in the situation."""
    return plain_open_bars(case, come, gone, event) == ()


def in_order(case, lot):
    """The lot in house order."""
    return tuple([guest for guest in case.house.guests if guest in lot])


def plain_leavers(case, come, gone):
    """Those who leave as long as some leaving may happen, always the first one in house order."""
    leavers = []
    while True:
        left = list(gone) + leavers
        ready = [guest for guest in case.house.guests if guest not in left and may(case, come, left, ("out", guest))]
        if not ready:
            return leavers
        leavers.append(ready[0])


def plain_rested(case, come, gone):
    """The situation at rest, read off point 69."""
    return (in_order(case, come), in_order(case, list(gone) + plain_leavers(case, come, gone)))


def plain_situations(case):
    """All situations in the order in which they are found, and the first way to each, read off point 69."""
    found = [plain_rested(case, (), ())]
    ways = {found[0]: ()}
    for come, gone in found:
        for guest in case.house.guests:
            if may(case, come, gone, ("in", guest)):
                after = plain_rested(case, come + (guest,), gone)
                if after not in found:
                    found.append(after)
                    ways[after] = ways[come, gone] + ((come, gone, guest),)
    return tuple(found), ways


def plain_open_evening(case):
    """The evening along the first way to the end, read off point 70."""
    _, ways = plain_situations(case)
    everybody = case.house.guests
    if (everybody, everybody) not in ways:
        return None
    steps = []
    for come, gone, guest in ways[everybody, everybody]:
        steps.append(("in", guest))
        for leaver in plain_leavers(case, come + (guest,), gone):
            steps.append(("out", leaver, case.wearing[everybody.index(leaver)]))
    return tuple(steps)


def plain_table(case, table):
    """Whether the table shows that no evening fits, read off point 71."""
    guests = case.house.guests
    if not any(len(come) == 0 for come, _ in table):
        return False
    for come, gone in table:
        if len(come) == len(guests) == len(gone):
            return False
        for guest in guests:
            if guest not in gone and may(case, come, gone, ("out", guest)):
                return False
            if guest not in come and may(case, come, gone, ("in", guest)):
                due = set(come) | {guest}
                if not any(set(other) == due and set(gone) <= set(lot) for other, lot in table):
                    return False
    return True


class Rested(PromiseCase):
    def check(self, case, come, gone, due):
        for kind in (tuple, list):
            self.same(rested(case, kind(come), kind(gone)), due)
            self.same(rested(case, kind(come[::-1]), kind(gone[::-1])), due)

    def test_rested(self):
        self.check(FREE, (), (), ((), ()))
        self.check(FREE, (ADA,), (), ((ADA,), ()))
        self.check(FREE, (BOB, ADA), (), ((ADA, BOB), (ADA, BOB)))
        self.check(FREE, (CLEO, BOB), (), ((BOB, CLEO), ()))
        self.check(FREE, (CLEO, ADA, BOB), (), (GUESTS, GUESTS))
        self.check(FREE, (CLEO, ADA, BOB), (BOB,), (GUESTS, GUESTS))

    def test_one_after_the_other(self):
        case = OpenCase(HOUSE, GUESTS, [])
        # Each one waits for those whose cloaks it likes better.
        self.check(case, (CLEO,), (), ((CLEO,), (CLEO,)))
        self.check(case, (CLEO, BOB), (), ((BOB, CLEO), (BOB, CLEO)))
        told = OpenCase(HOUSE, GUESTS, [("before", OUT_CLEO, OUT_BOB)])
        self.check(told, (CLEO, BOB), (), ((BOB, CLEO), ()))
        self.check(told, (CLEO, BOB), (CLEO,), ((BOB, CLEO), (BOB, CLEO)))

    def test_whoever_is_gone_and_has_not_come(self):
        self.check(FREE, (), (CLEO, ADA), ((), (ADA, CLEO)))
        self.check(FREE, (BOB,), (CLEO, ADA), ((BOB,), (ADA, CLEO)))
        self.check(FREE, (BOB, ADA), (CLEO, ADA), ((ADA, BOB), GUESTS))
        told = OpenCase(HOUSE, GUESTS, [("before", OUT_CLEO, OUT_ADA)])
        self.check(told, (ADA,), (), ((ADA,), ()))
        self.check(told, (ADA,), (CLEO,), ((ADA,), (ADA, CLEO)))

    def test_all_situations_of_small_cases(self):
        for case in open_samples(6):
            for come in lots_from(case.house.guests):
                for gone in lots_from(case.house.guests):
                    self.check(case, come, gone, plain_rested(case, come, gone))


class Situations(PromiseCase):
    def test_in_the_order_in_which_they_are_found(self):
        self.same(open_situations(FREE), (
            ((), ()), ((ADA,), ()), ((BOB,), ()), ((CLEO,), (CLEO,)), ((ADA, BOB), (ADA, BOB)), ((ADA, CLEO), ()),
            ((BOB, CLEO), ()), ((ADA, CLEO), (CLEO,)), ((BOB, CLEO), (CLEO,)), (GUESTS, GUESTS),
        ))
        house = House([CLEO, ADA])
        self.same(open_situations(OpenCase(house, [CLEO, ADA], [("before", IN_ADA, IN_CLEO)])), (
            ((), ()), ((ADA,), (ADA,)), ((CLEO, ADA), (CLEO, ADA)),
        ))

    def test_nobody_may_come(self):
        self.same(open_situations(OpenCase(HOUSE, GUESTS, [("after", IN_ADA, 1, (IN_BOB,)), ("before", IN_CLEO, IN_BOB),
                                                           ("before", IN_BOB, IN_CLEO)])), (((), ()),))
        self.same(open_situations(BARRED), (((), ()), ((ADA,), ()), ((BOB,), ()), ((ADA, BOB), ())))

    def test_all_situations_of_small_cases(self):
        lengths = set()
        several = 0
        for case in open_samples(25):
            found, ways = plain_situations(case)
            self.same(open_situations(case), found)
            lengths.add(len(found))
            several += len({come for come, _ in found}) < len(found)
        self.assertGreater(len(lengths), 8)
        self.assertGreater(several, 3)

    def test_five_guests(self):
        house = crowd(5).choosing("g2", 2).with_pegs(3)
        with within(30):
            for facts in ((), (("before", ("out", "g1"), ("in", "g4")), ("chose", "g0", 1))):
                case = OpenCase(house, ("g1", "g0", "g4", "g3", "g2"), facts)
                found, _ = plain_situations(case)
                self.same(open_situations(case), found)
                self.same(open_evening(case), plain_open_evening(case))


class Evenings(PromiseCase):
    def test_along_the_first_way(self):
        self.same(open_evening(FREE), (
            IN_ADA, IN_BOB, ("out", BOB, ADA), ("out", ADA, BOB), IN_CLEO, ("out", CLEO, CLEO),
        ))
        told = OpenCase(HOUSE, (BOB, ADA, CLEO), [("before", IN_CLEO, IN_ADA), ("away", IN_ADA, 1, (CLEO,))])
        self.same(open_evening(told), (
            IN_CLEO, ("out", CLEO, CLEO), IN_ADA, IN_BOB, ("out", BOB, ADA), ("out", ADA, BOB),
        ))
        self.same(open_evening(OpenCase(House([ADA]), [ADA], [])), (("in", ADA), ("out", ADA, ADA)))

    def test_no_evening(self):
        self.assertIsNone(open_evening(BARRED))
        self.assertIsNone(open_evening(OpenCase(HOUSE, GUESTS, [("chose", BOB, 0)])))
        self.assertIsNone(open_evening(OpenCase(House([ADA]), [ADA], [("bare", OUT_ADA, 1, (ADA,))])))

    def test_all_evenings_of_all_books_of_small_houses(self):
        without = 0
        for case in open_samples(12):
            due = fitting_open(case)
            found = open_evening(case)
            self.same(found, plain_open_evening(case))
            everybody = case.house.guests
            self.assertIs((everybody, everybody) in open_situations(case), due != [])
            if due:
                self.assertIn(found, due)
            else:
                without += 1
                self.assertIsNone(found)
                self.same(is_open_table(case, open_situations(case)), True)
        self.assertGreater(without, 40)
        self.assertLess(without, 110)

    def test_a_house_of_four(self):
        house = House([BOB, "dan", ADA, CLEO], brings=[ADA, BOB, "dan", CLEO], pegs=2)
        for wearing in permutations(house.guests):
            for facts in ((), (("before", ("in", ADA), ("in", BOB)), ("before", OUT_CLEO, ("in", "dan")))):
                case = OpenCase(house, wearing, facts)
                found = open_evening(case)
                self.same(found, plain_open_evening(case))
                if found is not None:
                    book = [step[1] for step in found if step[0] == "in"]
                    self.assertIs(is_evening(house, book, found), True)


class Tables(PromiseCase):
    TABLE = open_situations(BARRED)

    def judged(self, case, table, due):
        self.assertIs(plain_table(case, table), due)
        self.same(is_open_table(case, table), due)
        self.same(is_open_table(case, listed(table)), due)

    def test_the_situations_themselves(self):
        self.judged(BARRED, self.TABLE, True)
        self.judged(FREE, open_situations(FREE), False)

    def test_left_out_twice_and_in_another_order(self):
        for order in permutations(self.TABLE):
            self.judged(BARRED, order, True)
        self.judged(BARRED, self.TABLE * 2, True)
        for place in range(len(self.TABLE)):
            self.judged(BARRED, self.TABLE[:place] + self.TABLE[place + 1:], False)
            self.judged(BARRED, self.TABLE[:place] + self.TABLE[place + 1:] * 2, False)
            self.judged(BARRED, self.TABLE[:place] + self.TABLE[place:place + 1] + self.TABLE[place:], True)
        self.judged(BARRED, (), False)
        self.judged(BARRED, self.TABLE[1:], False)

    def test_without_one_in_which_nobody_has_come(self):
        # Each situation of the rest is followed, but the table does not begin.
        self.judged(BARRED, (((ADA, BOB), ()),), False)
        self.judged(BARRED, (((ADA, BOB), ()), ((BOB, ADA), ())), False)
        case = OpenCase(HOUSE, GUESTS, [("chose", guest, 0) for guest in GUESTS] + [("after", IN_ADA, 1, (OUT_BOB,))])
        self.judged(case, ((GUESTS, ()),), False)
        # Nobody has come, though all but cleo are taken as gone.
        stuck = OpenCase(House(GUESTS), GUESTS, [("after", ("in", guest), 1, (OUT_CLEO,)) for guest in GUESTS])
        self.judged(stuck, (((), (BOB, ADA)),), True)
        self.judged(stuck, (((), (BOB, ADA, CLEO)),), False)

    def test_one_in_which_all_have_come_and_gone(self):
        self.judged(BARRED, self.TABLE + ((GUESTS, GUESTS),), False)
        self.judged(BARRED, ((GUESTS[::-1], (BOB, CLEO, ADA)),) + self.TABLE, False)
        self.judged(BARRED, self.TABLE + ((GUESTS, (ADA, BOB)),), False)
        self.judged(OpenCase(HOUSE, GUESTS, BARRED.facts + (("chose", CLEO, 0),)),
                    self.TABLE + ((GUESTS, (ADA, BOB)),), True)

    def test_a_situation_in_which_somebody_else_may_leave(self):
        case = OpenCase(HOUSE, GUESTS, [("before", OUT_CLEO, OUT_BOB), ("away", IN_CLEO, 1, (BOB,)),
                                        ("before", IN_BOB, IN_CLEO)])
        table = open_situations(case)
        self.judged(case, table, True)
        for place, (come, gone) in enumerate(table):
            if gone:
                self.judged(case, table[:place] + ((come, ()),) + table[place + 1:], False)
                self.judged(case, table + ((come, ()),), False)

    def test_greater_and_smaller_lots(self):
        case = OpenCase(HOUSE, GUESTS, [("before", OUT_CLEO, OUT_BOB), ("away", IN_CLEO, 1, (BOB,)),
                                        ("before", IN_BOB, IN_CLEO)])
        table = open_situations(case)
        self.assertEqual(table, (((), ()), ((ADA,), (ADA,)), ((BOB,), ()), ((ADA, BOB), (ADA,))))
        # A lot that contains the one that is needed will do, as long as all that follows is there, too.
        everywhere = tuple([(come, in_order(case, gone + (ADA,))) for come, gone in table])
        self.judged(case, everywhere, True)
        for place, (come, gone) in enumerate(table):
            for lot in lots_from(GUESTS):
                other = table[:place] + ((come, lot),) + table[place + 1:]
                self.judged(case, other, plain_table(case, other))

    def test_lots_in_any_order(self):
        for come_order in permutations((ADA, BOB)):
            self.judged(BARRED, self.TABLE[:3] + ((come_order, ()),), True)
        case = OpenCase(HOUSE, GUESTS, [("before", OUT_CLEO, IN_ADA), ("before", IN_ADA, IN_BOB),
                                        ("away", IN_BOB, 1, (ADA,)), ("before", IN_BOB, OUT_ADA)])
        table = open_situations(case)
        self.judged(case, table, True)
        self.judged(case, [(come[::-1], gone[::-1]) for come, gone in table], True)

    def test_spoilt_in_some_place(self):
        draw = Random(71)
        answers = []
        for case in open_samples(10):
            guests = case.house.guests
            table = open_situations(case)
            lots = lots_from(guests)
            for _ in range(6):
                place = draw.randrange(len(table))
                come, gone = table[place]
                spoilt = draw.choice(((come, draw.choice(lots)), (draw.choice(lots), gone), (come, gone[1:]),
                                      (come, in_order(case, gone + draw.choice(lots)))))
                for other in (table[:place] + (spoilt,) + table[place + 1:], table + (spoilt,), table[:place]):
                    due = plain_table(case, other)
                    self.judged(case, other, due)
                    answers.append(due)
                    if due:
                        self.assertIsNone(open_evening(case))
        self.assertGreater(min(answers.count(True), answers.count(False)), 100)

    def test_no_argument_is_changed(self):
        table = listed(self.TABLE)
        is_open_table(BARRED, table)
        come, gone = [BOB, ADA], [ADA]
        rested(BARRED, come, gone)
        self.assertEqual((table, come, gone), (listed(self.TABLE), [BOB, ADA], [ADA]))
