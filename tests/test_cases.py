"""Point 26: cases."""

from leavetaking.cases import Case
from leavetaking.errors import BadBook, BadFact, BadWearing

from tests.helpers import (
    ADA, BOB, CLEO, PLAIN, PromiseCase, TURNED, TURNED_BOOK, TURNED_WEARING, all_facts, listed,
)

FACTS = (
    ("before", ("in", ADA), ("out", BOB)),
    ("bare", ("out", ADA), 1, (BOB, CLEO)),
    ("away", ("in", ADA), 2, (BOB, ADA)),
    ("after", ("out", BOB), 0, (("in", CLEO), ("out", ADA))),
    ("chose", CLEO, 0),
)
STRANGE = ("chose", "zoe", 1)
UNLIKE = (
    ("wore", ADA, BOB), ("spared", ADA, BOB), ("hung", ("out", ADA), 1, (BOB,)), ("there", ("out", ADA), 1, (BOB,)),
    ("ahead", ("out", ADA), 1, (("in", BOB),)), ("settled", ADA, 1), STRANGE, ("chose", ADA, -1), ("chose", ADA, True),
    ("before", ("in", ADA), ("in", ADA)), ("bare", ("out", ADA), 1, (BOB, BOB)), (), ("before",),
    ("after", ("in", ADA), 1, (("in", ADA),)), ("away", ("in", "zoe"), 1, (ADA,)),
)


class Making(PromiseCase):
    def test_fields(self):
        for kind in (tuple, listed):
            case = Case(TURNED, kind(TURNED_BOOK), kind(TURNED_WEARING), kind(FACTS))
            self.assertEqual(case.house, TURNED)
            self.same((case.book, case.wearing, case.facts), (TURNED_BOOK, TURNED_WEARING, FACTS))

    def test_no_facts_and_facts_that_stand_twice(self):
        self.same(Case(TURNED, TURNED_BOOK, TURNED_WEARING, []).facts, ())
        self.same(Case(TURNED, TURNED_BOOK, TURNED_WEARING, FACTS * 12).facts, FACTS * 12)

    def test_a_case_copies_its_arguments(self):
        book, wearing, facts = list(TURNED_BOOK), list(TURNED_WEARING), listed(FACTS)
        case = Case(TURNED, book, wearing, facts)
        self.assertEqual((book, wearing, facts), (list(TURNED_BOOK), list(TURNED_WEARING), listed(FACTS)))
        book.reverse()
        wearing.clear()
        facts[1][3].append(ADA)
        facts.pop()
        self.same((case.book, case.wearing, case.facts), (TURNED_BOOK, TURNED_WEARING, FACTS))

    def test_bad_book(self):
        for book in ([], [ADA, BOB], [ADA, BOB, BOB], [ADA, BOB, "zoe"], [ADA, BOB, CLEO, CLEO]):
            self.refused(BadBook, Case, TURNED, book, TURNED_WEARING, FACTS)

    def test_bad_wearing(self):
        for wearing in ([], [ADA, BOB], [ADA, BOB, BOB], [ADA, BOB, "zoe"], [ADA, BOB, CLEO, CLEO], [ADA, BOB, ""]):
            self.refused(BadWearing, Case, TURNED, TURNED_BOOK, wearing, FACTS)

    def test_bad_fact(self):
        for wrong in UNLIKE:
            for place in range(len(FACTS) + 1):
                facts = FACTS[:place] + (wrong,) + FACTS[place:] + (STRANGE, ())
                for passed in (facts, listed(facts)):
                    error = self.refused(BadFact, Case, TURNED, TURNED_BOOK, TURNED_WEARING, passed)
                    self.same(error.fact, wrong)

    def test_each_kind_that_is_not_plain_is_refused(self):
        kinds = {}
        for fact in all_facts(TURNED):
            kinds.setdefault(fact[0], fact)
        self.assertEqual(len(kinds), 11)
        for kind, fact in kinds.items():
            if kind in PLAIN:
                self.same(Case(TURNED, TURNED_BOOK, TURNED_WEARING, [fact]).facts, (fact,))
            else:
                self.same(self.refused(BadFact, Case, TURNED, TURNED_BOOK, TURNED_WEARING, [fact]).fact, fact)

    def test_errors_together(self):
        self.refused(BadBook, Case, TURNED, [ADA], [ADA], [STRANGE])
        self.refused(BadBook, Case, TURNED, [ADA], TURNED_WEARING, [STRANGE])
        self.refused(BadBook, Case, TURNED, [ADA], [ADA], FACTS)
        self.refused(BadWearing, Case, TURNED, TURNED_BOOK, [ADA], [STRANGE])
