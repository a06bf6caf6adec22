"""Point 72: cases, papers and verdicts for torn stories."""

from itertools import permutations

from leavetaking.casework import cases_of
from leavetaking.claims import Claim
from leavetaking.errors import BadFact
from leavetaking.houses import House
from leavetaking.opencases import OpenCase
from leavetaking.openverdicts import is_open_refutation, open_cases, open_first, open_refutation, open_verdict
from leavetaking.situations import open_evening, open_situations
from leavetaking.stories import Story
from leavetaking.torn import Torn, book_story, torn_fits
from leavetaking.verdicts import Verdict, verdict

from tests.helpers import (
    ADA, BOB, CLEO, GUESTS, PromiseCase, TURNED, crowd, fitting_torn, listed, permuted_books, plain_cases, says_form,
    torn_samples, within,
)
from tests.test_situations import plain_table

IN_ADA, IN_BOB, IN_CLEO = [("in", guest) for guest in GUESTS]
OUT_ADA, OUT_BOB, OUT_CLEO = [("out", guest) for guest in GUESTS]
TORN = Torn(House(GUESTS), [("before", IN_CLEO, IN_BOB), ("wore", BOB, CLEO)])
OPEN = Claim.of(("before", OUT_ADA, IN_CLEO))
SURE = Claim.of(("before", IN_CLEO, OUT_BOB)) & Claim.of(("spared", ADA, CLEO))
NONE = TORN.told(("before", OUT_CLEO, IN_BOB)).told(("wore", CLEO, ADA)).told(("before", OUT_CLEO, IN_ADA))
STRANGE = ("chose", "zoe", 1)
STRANGERS = OPEN | Claim.of(STRANGE) | Claim.of(("wore", "yves", ADA))


def found_cases(torn, *claims):
    """The wearings and the facts of all cases."""
    return [(case.wearing, case.facts) for case in open_cases(torn, *claims)]


class Cases(PromiseCase):
    def test_as_with_a_book(self):
        for torn, claim in torn_samples(8):
            story = Story(torn.house, torn.house.guests, torn.facts)
            for told in (None, claim, ~claim):
                found = list(open_cases(torn, told))
                self.assertEqual([(case.wearing, case.facts) for case in found], plain_cases(story, told))
                self.assertEqual([(case.wearing, case.facts) for case in cases_of(story, told)],
                                 found_cases(torn, told))
                for case in found:
                    self.assertIs(type(case), OpenCase)
                    self.assertEqual(case.house, torn.house)
            self.assertEqual(found_cases(torn), found_cases(torn, None))

    def test_in_order(self):
        told = (("before", IN_CLEO, IN_BOB),)
        self.assertEqual(found_cases(TORN), [((ADA, CLEO, BOB), told), ((BOB, CLEO, ADA), told)])
        claim = Claim.of(("ahead", OUT_ADA, 1, (IN_BOB, OUT_BOB))) | Claim.of(("wore", ADA, BOB))
        self.assertEqual(found_cases(TORN, claim), [
            ((ADA, CLEO, BOB), told + (("before", OUT_ADA, IN_BOB), ("before", OUT_ADA, OUT_BOB))),
            ((BOB, CLEO, ADA), told + (("before", OUT_ADA, IN_BOB), ("before", OUT_ADA, OUT_BOB))),
            ((BOB, CLEO, ADA), told),
        ])
        self.assertEqual(found_cases(TORN.told(("wore", BOB, ADA))), [])
        self.assertEqual(len(found_cases(Torn(House(GUESTS)))), 6)

    def test_two_generators_in_turn(self):
        one, two = open_cases(TORN, OPEN), open_cases(Torn(TURNED), ~OPEN)
        found = [], []
        for _ in range(8):
            for at, generator in ((0, one), (1, two)):
                found[at].extend([(case.wearing, case.facts) for case in [next(generator, None)] if case is not None])
            open_verdict(TORN, OPEN)
        self.assertEqual(found, (found_cases(TORN, OPEN), found_cases(Torn(TURNED), ~OPEN)))


class Evenings(PromiseCase):
    def check(self, torn, claim):
        evening, paper = open_first(torn, claim), open_refutation(torn, claim)
        cases = list(open_cases(torn, claim))
        evenings = [steps for steps in [open_evening(case) for case in cases] if steps is not None]
        if evenings:
            self.same(evening, evenings[0])
            self.assertIsNone(paper)
            self.assertIs(torn_fits(torn, evening), True)
            self.assertIs(claim is None or says_form(torn.house, evening, claim.form), True)
        else:
            self.assertIsNone(evening)
            self.same(paper, tuple([(case.wearing, case.facts, open_situations(case)) for case in cases]))
            self.assertEqual(fitting_torn(torn, claim), [])
            self.same(is_open_refutation(torn, claim, paper), True)
        return evening is None

    def test_first_evening_and_refutation(self):
        self.same(open_first(TORN), (
            IN_ADA, ("out", ADA, ADA), IN_CLEO, IN_BOB, ("out", CLEO, BOB), ("out", BOB, CLEO),
        ))
        self.assertIsNone(open_refutation(TORN))
        self.assertIsNone(open_first(NONE))
        told = (("before", IN_CLEO, IN_BOB), ("before", OUT_CLEO, IN_BOB), ("before", OUT_CLEO, IN_ADA))
        self.same(open_refutation(NONE), (
            ((BOB, CLEO, ADA), told, (((), ()), ((CLEO,), ()))),
        ))
        self.same(open_refutation(TORN.told(("wore", ADA, CLEO))), ())
        self.check(TORN, SURE)
        self.check(NONE, None)

    def test_all_evenings_of_all_books(self):
        without = [self.check(torn, told) for torn, claim in torn_samples(8) for told in (None, claim, ~claim)]
        self.assertGreater(without.count(True), 60)
        self.assertGreater(without.count(False), 60)

    def test_without_a_claim(self):
        for torn, _ in torn_samples(3):
            self.same(open_first(torn), open_first(torn, None))
            self.same(open_refutation(torn), open_refutation(torn, None))

    def test_five_guests(self):
        house = crowd(5)
        with within(60):
            torn = Torn(house, [("before", ("in", "g4"), ("in", "g0")), ("wore", "g0", "g4")])
            self.assertIs(torn_fits(torn, open_first(torn)), True)
            paper = open_refutation(torn, Claim.of(("before", ("out", "g0"), ("in", "g4"))))
            self.assertEqual(len(paper), 24)
            self.same(is_open_refutation(torn, Claim.of(("before", ("out", "g0"), ("in", "g4"))), paper), True)


class Papers(PromiseCase):
    # Two cases for each of two wearings.
    CLAIM = Claim.of(("ahead", OUT_BOB, 2, (IN_ADA, IN_CLEO, OUT_CLEO))) & Claim.of(("before", IN_BOB, IN_ADA))
    TORN = Torn(House(GUESTS), [("before", IN_CLEO, IN_BOB), ("before", OUT_BOB, IN_CLEO), ("spared", BOB, ADA),
                                ("wore", CLEO, ADA)])

    def refutes(self, paper, due, torn=None, claim=None):
        torn = self.TORN if torn is None else torn
        claim = self.CLAIM if claim is None else claim
        self.same(is_open_refutation(torn, claim, paper), due)
        self.same(is_open_refutation(torn, claim, listed(paper)), due)

    def test_another_order_and_items_twice(self):
        paper = open_refutation(self.TORN, self.CLAIM)
        self.assertEqual([item[0] for item in paper], [(BOB, CLEO, ADA)] * 3 + [(CLEO, BOB, ADA)] * 3)
        self.refutes(paper, True)
        self.refutes(paper[::-1], True)
        self.refutes(paper + paper, True)
        self.refutes(paper[3:] + paper[:3], True)

    def test_an_item_is_left_out(self):
        paper = open_refutation(self.TORN, self.CLAIM)
        for at in range(len(paper)):
            self.refutes(paper[:at] + paper[at + 1:], False)
        self.refutes((), False)

    def test_spoilt_in_one_place(self):
        paper = open_refutation(self.TORN, self.CLAIM)
        for at, (wearing, facts, table) in enumerate(paper):
            spoilt = [(wearing, facts[::-1], table), (wearing, facts[1:], table), (wearing, facts + facts[:1], table),
                      ((ADA, BOB, CLEO), facts, table), (wearing, facts, ()), (wearing, facts, table[1:]),
                      (wearing, facts, table + ((GUESTS, GUESTS),))]
            spoilt += [(wearing, facts, table[:place] + table[place + 1:]) for place in range(len(table))]
            for item in spoilt:
                case = OpenCase(self.TORN.house, wearing, facts)
                due = item[:2] == (wearing, facts) and plain_table(case, item[2])
                self.assertIs(due, False)
                self.refutes(paper[:at] + (item,) + paper[at + 1:], False)
                # Of several items for a case one is enough.
                self.refutes(paper[:at] + (item,) + paper[at:], True)
                self.refutes(paper + (item, item), True)

    def test_with_and_without_a_claim(self):
        paper = open_refutation(NONE)
        self.same(is_open_refutation(NONE, None, paper), True)
        self.same(is_open_refutation(NONE, None, listed(paper)), True)
        self.same(is_open_refutation(NONE, OPEN, paper), False)
        self.same(is_open_refutation(TORN, None, paper), False)
        self.same(is_open_refutation(TORN.told(("wore", ADA, CLEO)), None, ()), True)
        self.refutes(open_refutation(self.TORN, self.CLAIM), False, TORN)
        self.refutes(open_refutation(self.TORN, self.CLAIM), False, None, OPEN)

    def test_no_paper_refutes_what_some_evening_fits(self):
        torns = [(torn, claim) for torn, claim in torn_samples(4) if len(torn.house) == 3]
        items = sum([open_refutation(torn, claim) or () for torn, claim in torns], ())
        for torn, claim in torns[::3]:
            for told in (None, claim):
                if fitting_torn(torn, told):
                    self.same(is_open_refutation(torn, told, items), False)

    def test_no_argument_is_changed(self):
        paper = listed(open_refutation(self.TORN, self.CLAIM))
        is_open_refutation(self.TORN, self.CLAIM, paper)
        self.assertEqual(paper, listed(open_refutation(self.TORN, self.CLAIM)))


class Verdicts(PromiseCase):
    def check(self, torn, claim, word):
        found = open_verdict(torn, claim)
        self.assertIsInstance(found, Verdict)
        keeping, breaking = open_first(torn, claim), open_first(torn, ~claim)
        papers = {"none": (None,), "sure": (~claim,), "never": (claim,), "open": ()}[word]
        paper = open_refutation(torn, *papers) if papers else ()
        self.same((found.word, found.keeping, found.breaking, found.paper), (word, keeping, breaking, paper))
        self.assertIs(found.keeping is None, word in ("none", "never"))
        self.assertIs(found.breaking is None, word in ("none", "sure"))
        for told in papers:
            self.same(is_open_refutation(torn, told, found.paper), True)

    def test_every_word(self):
        self.check(TORN, OPEN, "open")
        self.check(TORN, SURE, "sure")
        self.check(TORN, ~SURE, "never")
        for claim in (OPEN, SURE, ~SURE):
            self.check(NONE, claim, "none")
            self.check(TORN.told(("wore", ADA, CLEO)), claim, "none")

    def test_all_evenings_of_all_books(self):
        words = []
        for torn, claim in torn_samples(12):
            fit, keep = fitting_torn(torn), fitting_torn(torn, claim)
            word = "none" if not fit else "sure" if fit == keep else "open" if keep else "never"
            self.check(torn, claim, word)
            words.append(word)
            books = [verdict(book_story(torn, book), claim).word for book in permuted_books(torn.house)]
            possible = [other for other in books if other != "none"]
            self.assertIs(word == "sure", bool(possible) and set(possible) == {"sure"})
            self.assertIs(word == "none", not possible)
        for word in ("none", "sure", "never", "open"):
            self.assertGreater(words.count(word), 5)

    def test_strangers(self):
        for torn in (TORN, NONE, TORN.told(("wore", ADA, CLEO))):
            self.same(self.refused(BadFact, next, open_cases(torn, STRANGERS)).fact, STRANGE)
            self.same(self.refused(BadFact, open_first, torn, STRANGERS).fact, STRANGE)
            self.same(self.refused(BadFact, open_refutation, torn, STRANGERS).fact, STRANGE)
            self.same(self.refused(BadFact, is_open_refutation, torn, STRANGERS, ()).fact, STRANGE)
            self.same(self.refused(BadFact, open_verdict, torn, STRANGERS).fact, STRANGE)


class Books(PromiseCase):
    def test_facts_about_comings_tell_the_book(self):
        house = House(GUESTS)
        for book in permutations(GUESTS):
            comings = [("before", ("in", one), ("in", two)) for one, two in zip(book, book[1:])]
            for claim in (OPEN, SURE):
                torn, story = Torn(house, comings), Story(house, book)
                self.assertEqual(open_verdict(torn, claim).word, verdict(story, claim).word)
