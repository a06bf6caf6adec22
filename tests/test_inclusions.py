"""Point 45: whether the evenings that fit one story fit another one."""

from itertools import permutations

from leavetaking.casework import first_evening, is_refutation, refutation
from leavetaking.claims import Claim
from leavetaking.errors import StoriesDiffer
from leavetaking.facts import contrary
from leavetaking.fitting import fits
from leavetaking.houses import House
from leavetaking.inclusions import Inclusion, are_alike, include, is_inclusion
from leavetaking.stories import Story

from tests.helpers import (
    ADA, BOB, CLEO, GUESTS, PromiseCase, TURNED, TURNED_BOOK, fitting, listed, many_facts, sample_houses,
)

IN_ADA, IN_BOB, IN_CLEO = [("in", guest) for guest in GUESTS]
OUT_ADA, OUT_BOB, OUT_CLEO = [("out", guest) for guest in GUESTS]
EMPTY = Story(House(GUESTS), GUESTS)
ONE = EMPTY.told(("before", OUT_ADA, IN_BOB)).told(("wore", BOB, BOB))
TWO = EMPTY.told(("wore", CLEO, CLEO)).told(("chose", ADA, 1)).told(("before", IN_ADA, OUT_BOB))
NONE = EMPTY.told(("chose", ADA, 0))
NEVER = EMPTY.told(("wore", ADA, ADA)).told(("wore", BOB, ADA))


def pairs_of_stories():
    """Pairs of stories with the same house and book, some of them with facts of the other one."""
    for house, book in sample_houses():
        stories = [story for story, _ in many_facts(9, [(house, book)])]
        for one, two in zip(stories, stories[1:]):
            shorter = Story(house, book, two.facts[:2])
            yield from ((one, shorter), (shorter, two), (two, shorter), (shorter, one), (two, two))


class Include(PromiseCase):
    def check(self, one, two, inside):
        found = include(one, two)
        self.assertIsInstance(found, Inclusion)
        denials = [Claim.of(contrary(fact)) for fact in two.facts]
        evenings = [evening for evening in [first_evening(one, denial) for denial in denials] if evening is not None]
        papers = tuple([refutation(one, denial) for denial in denials]) if inside else ()
        self.same((found.inside, found.evening, found.papers), (inside, evenings[0] if evenings else None, papers))
        if inside:
            self.same(is_inclusion(one, two, found.papers), True)
        else:
            self.assertIs(fits(one, found.evening) and not fits(two, found.evening), True)

    def test_inclusions_that_hold(self):
        self.check(ONE, TWO, True)
        self.assertEqual([len(paper) for paper in include(ONE, TWO).papers], [1, 2, 2])
        self.check(ONE, EMPTY, True)
        self.check(ONE, ONE, True)
        self.check(ONE, ONE.told(("before", OUT_ADA, OUT_CLEO)), True)

    def test_inclusions_that_do_not_hold(self):
        self.check(TWO, ONE, False)
        self.check(EMPTY, ONE, False)
        self.check(ONE, TWO.told(("before", OUT_BOB, IN_CLEO)), False)
        self.check(ONE, NONE, False)
        self.check(EMPTY, NEVER, False)
        # The evening belongs to the first fact of the other story that can be broken, not to the first fact.
        two = EMPTY.told(("before", IN_ADA, OUT_BOB)).told(("before", OUT_BOB, IN_CLEO)).told(("wore", ADA, ADA))
        self.same(include(EMPTY, two).evening, first_evening(EMPTY, Claim.of(("before", IN_CLEO, OUT_BOB))))

    def test_stories_without_facts(self):
        self.check(EMPTY, EMPTY, True)
        found = include(NONE, EMPTY)
        self.same((found.inside, found.evening, found.papers), (True, None, ()))
        self.same(is_inclusion(EMPTY, EMPTY, ()), True)
        self.check(EMPTY, EMPTY.told(("before", IN_ADA, OUT_CLEO)), True)

    def test_equal_facts(self):
        twice = ONE + ONE
        self.check(ONE, twice, True)
        self.check(twice, ONE, True)
        self.assertEqual(len(include(ONE, twice).papers), 4)
        self.check(twice, TWO + TWO, True)
        self.check(TWO + TWO, twice, False)

    def test_stories_that_no_evening_fits(self):
        for none in (NONE, NEVER, ONE + EMPTY.told(("wore", ADA, BOB))):
            for two in (EMPTY, ONE, TWO, NONE, NEVER):
                self.check(none, two, True)
                if two in (EMPTY, ONE, TWO):
                    self.same(are_alike(none, two), False)
                    self.same(are_alike(two, none), False)
                else:
                    self.same(are_alike(none, two), True)

    def test_all_evenings_of_small_houses(self):
        words = set()
        for one, two in pairs_of_stories():
            ones, twos = fitting(one), fitting(two)
            inside = all(evening in twos for evening in ones)
            self.check(one, two, inside)
            self.same(are_alike(one, two), ones == twos)
            words.add((inside, ones == twos, ones == []))
        self.assertEqual(words, {(True, True, True), (True, True, False), (True, False, True), (True, False, False),
                                 (False, False, False)})

    def test_alike(self):
        self.same(are_alike(ONE, ONE.told(("before", OUT_ADA, OUT_CLEO))), True)
        self.same(are_alike(ONE, EMPTY.told(("wore", CLEO, CLEO)).told(("before", OUT_ADA, IN_BOB))), True)
        self.same(are_alike(ONE, TWO), False)
        self.same(are_alike(TWO, ONE), False)
        self.same(are_alike(EMPTY, EMPTY), True)

    def test_stories_differ(self):
        house, facts = House(GUESTS), ONE.facts
        others = (
            Story(house, (ADA, CLEO, BOB), facts), Story(house.with_pegs(3), GUESTS, facts),
            Story(house.liking(BOB, [3, 2, 0]), GUESTS, facts), Story(house.choosing(BOB, 2), GUESTS, facts),
            Story(house.bringing([BOB, ADA, CLEO]), GUESTS, facts), Story(TURNED, TURNED_BOOK),
            Story(House([BOB, ADA, CLEO]), GUESTS, facts),
        )
        for other in others:
            for one, two in ((ONE, other), (other, ONE), (EMPTY, other), (other, NONE)):
                self.refused(StoriesDiffer, include, one, two)
                self.refused(StoriesDiffer, are_alike, one, two)
                for papers in ((), ((),), refutation(NONE), ((), ()), [(), (), ()]):
                    self.refused(StoriesDiffer, is_inclusion, one, two, papers)
        self.same(include(ONE, Story(House(list(GUESTS)), list(GUESTS), facts)).inside, True)


class Papers(PromiseCase):
    PAPERS = include(ONE, TWO).papers

    def judged(self, papers, due, one=ONE, two=TWO):
        self.same(is_inclusion(one, two, papers), due)
        self.same(is_inclusion(one, two, listed(papers)), due)

    def test_right_papers(self):
        self.judged(self.PAPERS, True)
        self.judged([paper * 2 for paper in self.PAPERS], True)

    def test_too_few_and_too_many(self):
        for count in range(3):
            self.judged(self.PAPERS[:count], False)
        self.judged(self.PAPERS + self.PAPERS[:1], False)
        self.judged(self.PAPERS + ((),), False)
        self.judged(self.PAPERS * 2, False)
        self.judged(self.PAPERS * 2, True, ONE, TWO + TWO)
        self.judged((), False)
        self.judged((), True, ONE, EMPTY)
        self.judged(((),), False, ONE, EMPTY)

    def test_another_order(self):
        for papers in permutations(self.PAPERS):
            self.judged(papers, papers == self.PAPERS)

    def test_spoilt_in_one_place(self):
        for at, paper in enumerate(self.PAPERS):
            for place, (wearing, facts, levels, come) in enumerate(paper):
                spoilt = ((), ((wearing[::-1], facts, levels, come),), ((wearing, facts[1:], levels, come),),
                          ((wearing, facts, (0, 0, 0), 3),), ((wearing, facts + (("chose", ADA, 1),), levels, come),))
                for items in spoilt:
                    other = paper[:place] + items + paper[place + 1:]
                    self.judged(self.PAPERS[:at] + (other,) + self.PAPERS[at + 1:], False)
                    self.judged(self.PAPERS[:at] + (items + paper,) + self.PAPERS[at + 1:], True)

    def test_no_papers_show_what_is_not_so(self):
        papers = [include(ONE, story).papers for story in (TWO, ONE, EMPTY)] + [include(NONE, TWO).papers]
        items = sum([paper for row in papers for paper in row], ())
        for one, two in ((TWO, ONE), (EMPTY, TWO), (EMPTY, NONE), (ONE, NONE)):
            self.judged((items,) * len(two), False, one, two)

    def test_as_refutations_of_each_contrary(self):
        for one, two in pairs_of_stories():
            papers = [refutation(one, Claim.of(contrary(fact))) or () for fact in two.facts]
            due = all(is_refutation(one, Claim.of(contrary(fact)), paper) for fact, paper in zip(two.facts, papers))
            self.judged(papers, due, one, two)
            self.assertIs(due, include(one, two).inside)

    def test_no_argument_is_changed(self):
        papers = listed(self.PAPERS)
        is_inclusion(ONE, TWO, papers)
        self.assertEqual(papers, listed(self.PAPERS))
