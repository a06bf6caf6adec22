"""Point 68: cases without a book, and their bars."""

from itertools import permutations

from leavetaking.bars import bars
from leavetaking.cases import Case
from leavetaking.errors import BadFact, BadWearing
from leavetaking.houses import House
from leavetaking.opencases import OpenCase, open_bars

from tests.helpers import (
    ADA, BOB, CLEO, GUESTS, PLAIN, PromiseCase, TURNED, TURNED_WEARING, all_facts, listed, lots_from, open_samples,
    plain_events, plain_open_bars,
)
from tests.test_cases import FACTS, STRANGE, UNLIKE

BAD_WEARINGS = ((), (ADA, BOB), (ADA, BOB, BOB), (ADA, BOB, "zoe"), (ADA, BOB, CLEO, CLEO), (ADA, BOB, ""))


class Making(PromiseCase):
    def test_fields(self):
        for kind in (tuple, listed):
            case = OpenCase(TURNED, kind(TURNED_WEARING), kind(FACTS))
            self.assertEqual(case.house, TURNED)
            self.same((case.wearing, case.facts), (TURNED_WEARING, FACTS))
        self.same(OpenCase(TURNED, TURNED_WEARING, []).facts, ())
        self.same(OpenCase(TURNED, TURNED_WEARING, FACTS * 12).facts, FACTS * 12)

    def test_a_case_copies_its_arguments(self):
        wearing, facts = list(TURNED_WEARING), listed(FACTS)
        case = OpenCase(TURNED, wearing, facts)
        self.assertEqual((wearing, facts), (list(TURNED_WEARING), listed(FACTS)))
        wearing.clear()
        facts[1][3].append(ADA)
        facts.pop()
        self.same((case.wearing, case.facts), (TURNED_WEARING, FACTS))

    def test_bad_wearing(self):
        for wearing in BAD_WEARINGS:
            for facts in (FACTS, (), (STRANGE,)):
                self.refused(BadWearing, OpenCase, TURNED, wearing, facts)
                self.refused(BadWearing, OpenCase, TURNED, list(wearing), listed(facts))

    def test_bad_fact(self):
        for wrong in UNLIKE:
            for place in range(len(FACTS) + 1):
                facts = FACTS[:place] + (wrong,) + FACTS[place:] + (STRANGE, ())
                for passed in (facts, listed(facts)):
                    self.same(self.refused(BadFact, OpenCase, TURNED, TURNED_WEARING, passed).fact, wrong)

    def test_each_kind_that_is_not_plain_is_refused(self):
        kinds = {}
        for fact in all_facts(TURNED):
            kinds.setdefault(fact[0], fact)
        self.assertEqual(len(kinds), 11)
        for kind, fact in kinds.items():
            if kind in PLAIN:
                self.same(OpenCase(TURNED, TURNED_WEARING, [fact]).facts, (fact,))
            else:
                self.same(self.refused(BadFact, OpenCase, TURNED, TURNED_WEARING, [fact]).fact, fact)


class Bars(PromiseCase):
    def check(self, case, come, gone, event, due):
        for kind in (tuple, list):
            self.same(open_bars(case, kind(come), kind(gone), kind(event)), due)

    def test_turns_of_comings(self):
        case = OpenCase(House(GUESTS), GUESTS, [])
        for come in lots_from(GUESTS):
            for guest in GUESTS:
                self.check(case, come, (), ("in", guest), (("turn",),) if guest in come else ())

    def test_whoever_is_gone_and_has_not_come(self):
        case = OpenCase(House(GUESTS, pegs=1), (BOB, ADA, CLEO), [("before", ("out", ADA), ("in", BOB))])
        self.check(case, (), (ADA,), ("in", ADA), ())
        self.check(case, (), (ADA,), ("in", BOB), ())
        self.check(case, (), (BOB, CLEO), ("in", BOB), (("fact", 0),))
        # Bob's cloak does not hang, because ada is taken as gone.
        self.check(case, (BOB,), (ADA,), ("in", CLEO), ())
        self.check(case, (BOB,), (), ("in", CLEO), (("pegs",),))
        self.check(case, (BOB,), (ADA,), ("in", BOB), (("turn",),))
        self.check(case, (BOB,), (ADA,), ("out", ADA), (("turn",),))

    def test_all_bars_in_order(self):
        facts = [
            ("away", ("out", CLEO), 1, (ADA,)), ("before", ("out", BOB), ("out", CLEO)), ("chose", CLEO, 1),
            ("after", ("out", CLEO), 2, (("in", BOB), ("out", ADA))), ("bare", ("out", CLEO), 1, (ADA, BOB)),
            ("chose", ADA, 0), ("away", ("in", CLEO), 2, (ADA, BOB)),
        ]
        case = OpenCase(House(GUESTS, pegs=2), (ADA, BOB, CLEO), facts)
        self.check(case, (BOB, ADA), (), ("out", CLEO), (
            ("turn",), ("cloak",), ("depth",), ("fact", 0), ("fact", 1), ("fact", 2), ("fact", 3), ("fact", 4),
        ))
        self.check(case, (ADA, BOB), (), ("in", CLEO), (("pegs",), ("fact", 6)))
        self.check(case, GUESTS, (), ("in", CLEO), (("turn",), ("pegs",), ("fact", 6)))
        self.check(case, (CLEO, ADA, BOB), (BOB, ADA), ("out", CLEO), ())
        self.check(case, (BOB,), (), ("in", ADA), ())

    def test_every_situation_of_small_cases(self):
        found = set()
        for case in open_samples(4):
            lots = lots_from(case.house.guests)
            for come in lots:
                for gone in lots:
                    for event in plain_events(case.house):
                        due = plain_open_bars(case, come, gone, event)
                        self.check(case, come, gone, event, due)
                        found.update([bar[:1] for bar in due])
        self.assertEqual(found, {("turn",), ("pegs",), ("cloak",), ("depth",), ("fact",)})

    def test_lots_in_any_order(self):
        for case in open_samples(2):
            guests = case.house.guests
            for come in permutations(guests):
                for event in plain_events(case.house):
                    due = plain_open_bars(case, come, guests[:2], event)
                    self.check(case, come, guests[:2], event, due)
                    self.check(case, come, guests[:2][::-1], event, due)

    def test_only_turns_of_comings_are_other_than_with_a_book(self):
        for case in open_samples(3):
            guests = case.house.guests
            for come in range(len(guests) + 1):
                told = Case(case.house, guests, case.wearing, case.facts)
                for gone in lots_from(guests):
                    for event in plain_events(case.house):
                        one = open_bars(case, guests[:come], gone, event)
                        two = bars(told, come, gone, event)
                        if event[0] == "in" and event[1] in guests[come + 1:]:
                            two = two[1:]
                        self.same(one, two)

    def test_no_argument_is_changed(self):
        come, gone, event = [BOB, ADA], [ADA], ["in", CLEO]
        open_bars(OpenCase(TURNED, TURNED_WEARING, FACTS), come, gone, event)
        self.assertEqual((come, gone, event), ([BOB, ADA], [ADA], ["in", CLEO]))
