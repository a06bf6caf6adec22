"""Points 35 to 37: cases of a story, first evenings and refutations."""

from itertools import islice, permutations
from unittest.mock import patch

from leavetaking import casework
from leavetaking.cases import Case
from leavetaking.casework import cases_of, first_evening, is_refutation, refutation
from leavetaking.choices import choices
from leavetaking.claims import Claim
from leavetaking.errors import BadFact
from leavetaking.fitting import fits
from leavetaking.houses import House
from leavetaking.hurrying import hurry
from leavetaking.keeping import keeps
from leavetaking.levels import is_closed
from leavetaking.stories import Story

from tests.helpers import (
    ADA, BOB, CLEO, GUESTS, PromiseCase, TURNED, TURNED_BOOK, bounded_stories, crowd, fitting, fitting_case, listed,
    plain_cases, plain_closed, plain_hurry, sample_houses, within,
)

IN_ADA, IN_BOB, IN_CLEO = [("in", guest) for guest in GUESTS]
OUT_ADA, OUT_BOB, OUT_CLEO = [("out", guest) for guest in GUESTS]
STRANGE = ("chose", "zoe", 1)
STRANGERS = Claim.of(("wore", ADA, BOB)) | (Claim.of(STRANGE) & Claim.of(("chose", "yan", 1)))
PAIR = House([ADA, BOB])


def found_cases(story, claim=None):
    """The wearings and the facts of all cases."""
    return [(case.wearing, case.facts) for case in cases_of(story, claim)]


class Cases(PromiseCase):
    def check(self, story, claim, due):
        found = found_cases(story, claim)
        self.same(found, due)
        for case in cases_of(story, claim):
            self.assertIsInstance(case, Case)
            self.assertEqual(case.house, story.house)
            self.same(case.book, story.book)

    def test_no_facts_and_no_claim(self):
        house = House([CLEO, ADA, BOB])
        story = Story(house, [BOB, CLEO, ADA])
        self.check(story, None, [
            ((CLEO, ADA, BOB), ()), ((CLEO, BOB, ADA), ()), ((ADA, CLEO, BOB), ()),
            ((ADA, BOB, CLEO), ()), ((BOB, CLEO, ADA), ()), ((BOB, ADA, CLEO), ()),
        ])
        self.assertEqual(found_cases(story), found_cases(story, None))

    def test_the_last_fact_changes_fastest(self):
        ada, bob = ("before", OUT_ADA, IN_ADA), ("before", OUT_ADA, IN_BOB)
        mine, his = ("before", OUT_BOB, IN_ADA), ("before", OUT_BOB, IN_BOB)
        story = Story(PAIR, [ADA, BOB], [("ahead", OUT_ADA, 2, (IN_ADA, IN_BOB)), ("wore", ADA, BOB),
                                         ("ahead", OUT_BOB, 2, (IN_BOB, IN_ADA))])
        worn = (BOB, ADA)
        self.check(story, None, [(worn, (ada, his)), (worn, (ada, mine)), (worn, (bob, his)), (worn, (bob, mine))])

    def test_facts_of_the_claim_stand_behind_those_of_the_story(self):
        first, second, third = ("chose", ADA, 1), ("chose", BOB, 1), ("chose", ADA, 2)
        story = Story(PAIR, [ADA, BOB], [first, ("spared", ADA, ADA)])
        claim = (Claim.of(third) | Claim.of(("wore", BOB, BOB)) | Claim.of(second)) & Claim.of(second)
        # Both facts of the first lot; no case of the second one; the third one is that of one fact.
        self.check(story, claim, [((BOB, ADA), (first, third, second)), ((BOB, ADA), (first, second))])

    def test_wearings_come_ahead_of_lots_and_lots_ahead_of_choices(self):
        either = Claim.of(("ahead", OUT_ADA, 2, (IN_ADA, IN_BOB))) | Claim.of(("chose", BOB, 3))
        lots = [(("before", OUT_ADA, IN_ADA),), (("before", OUT_ADA, IN_BOB),), (("chose", BOB, 3),)]
        due = [(wearing, lot) for wearing in ((ADA, BOB), (BOB, ADA)) for lot in lots]
        self.check(Story(PAIR, [ADA, BOB]), either, due)

    def test_equal_facts_and_equal_cases_are_not_left_out(self):
        chose = ("chose", ADA, 1)
        story = Story(PAIR, [ADA, BOB], [chose, ("wore", ADA, ADA), chose])
        self.check(story, None, [((ADA, BOB), (chose, chose))])
        self.check(story, Claim.of(chose) & Claim.of(chose), [((ADA, BOB), (chose, chose, chose))])
        # Both lots of the claim make the same case, and so do two choices of one fact.
        claim = Claim.of(("wore", BOB, BOB)) | Claim.of(("spared", BOB, ADA))
        self.check(story, claim, [((ADA, BOB), (chose, chose))] * 2)
        late, early = ("before", OUT_BOB, IN_ADA), ("before", OUT_BOB, IN_BOB)
        twice = Story(PAIR, [ADA, BOB], [("wore", ADA, ADA)] + [("ahead", OUT_BOB, 2, (IN_ADA, IN_BOB))] * 2)
        self.check(twice, None, [((ADA, BOB), way) for way in (
            (late, late), (late, early), (early, late), (early, early),
        )])

    def test_no_case(self):
        for facts in ([("wore", ADA, ADA), ("wore", ADA, BOB)], [("wore", ADA, ADA), ("wore", BOB, ADA)],
                      [("wore", ADA, ADA), ("spared", ADA, ADA)], [("hung", IN_ADA, 1, (ADA,))],
                      [("there", OUT_ADA, 3, (ADA, BOB))], [("ahead", OUT_ADA, 0, ())]):
            story = Story(PAIR, [ADA, BOB], facts)
            self.check(story, None, [])
            self.check(story, Claim.of(("chose", ADA, 9)), [])
            self.check(Story(PAIR, [ADA, BOB]), Claim.every([Claim.of(fact) for fact in facts]), [])

    def test_wearings_that_are_told(self):
        story = Story(House(GUESTS), GUESTS, [("wore", CLEO, ADA)])
        self.check(story, None, [((BOB, CLEO, ADA), ()), ((CLEO, BOB, ADA), ())])
        # What a claim tells, and what is told of others, rules wearings out too.
        self.check(story, Claim.of(("wore", ADA, CLEO)), [((CLEO, BOB, ADA), ())])
        self.check(story.told(("spared", BOB, BOB)), None, [((BOB, CLEO, ADA), ())])
        self.check(story.told(("wore", CLEO, BOB)), None, [])
        self.check(story.told(("wore", BOB, ADA)), None, [])

    def test_as_the_point_tells(self):
        for story, claim in bounded_stories(12):
            for told in (None, claim):
                self.check(story, told, plain_cases(story, told))

    def test_an_evening_fits_if_and_only_if_it_fits_a_case(self):
        for story, claim in bounded_stories(4):
            for told in (None, claim, ~claim):
                found = set()
                for case in cases_of(story, told):
                    found.update(fitting_case(case))
                self.assertEqual(found, set(fitting(story, told)))

    def test_strangers(self):
        story = Story(House(GUESTS), GUESTS)
        for asked in (story, story.told(("wore", ADA, ADA)).told(("spared", ADA, ADA))):
            cases = cases_of(asked, STRANGERS)
            with self.assertRaises(BadFact) as caught:
                next(cases)
            self.same(caught.exception.fact, STRANGE)
            for ask in (first_evening, refutation):
                self.same(self.refused(BadFact, ask, asked, STRANGERS).fact, STRANGE)
            for paper in ((), refutation(story.told(("chose", ADA, 0)))):
                self.same(self.refused(BadFact, is_refutation, asked, STRANGERS, paper).fact, STRANGE)


class GreatStories(PromiseCase):
    def test_wearings_that_do_not_agree_are_not_gone_through(self):
        for count, free in ((10, (2, 5, 9)), (12, (0, 1)), (30, (0, 1, 2, 3)), (30, (3, 8, 28, 29)), (30, ())):
            house = crowd(count)
            worn = house.guests[1:] + house.guests[:1]
            pairs = list(zip(house.guests, worn))
            told = [("wore", guest, cloak) for at, (guest, cloak) in enumerate(pairs) if at not in free]
            story = Story(house, house.guests, told)
            rest = [worn[at] for at in sorted(free)]
            due = []
            for way in permutations(sorted(rest, key=house.guests.index)):
                wearing = list(worn)
                for at, cloak in zip(sorted(free), way):
                    wearing[at] = cloak
                due.append((tuple(wearing), ()))
            with within(20), patch.object(casework, "choices", side_effect=choices) as asked:
                self.assertEqual(found_cases(story), due)
                self.assertLessEqual(asked.call_count, len(due) * len(told))
                self.assertIsNotNone(first_evening(story))
                self.assertIsNone(refutation(story))

    def test_wearings_that_quarrel(self):
        house = crowd(30)
        told = [("wore", guest, guest) for guest in house.guests[4:]] + [("wore", "g4", "g5")]
        for facts in (told, [("wore", "g5", "g4")] + told, told[:-1] + [("wore", "g3", "g4")]):
            story = Story(house, house.guests, facts)
            with within(20):
                self.assertEqual(found_cases(story), [])
                self.assertIsNone(first_evening(story))
                self.same(refutation(story), ())

    def test_a_refutation_in_a_great_house(self):
        house = crowd(11)
        told = [("wore", guest, guest) for guest in house.guests[3:]] + [("before", ("in", "g10"), ("out", "g5"))]
        story = Story(house, house.guests, told)
        # As long as g5 is there, its cloak hangs, which g6 likes better than its own.
        claim = Claim.of(("before", ("out", "g6"), ("in", "g10"))) & Claim.of(("before", ("out", "g5"), ("out", "g6")))
        with within(20):
            self.assertIsNotNone(first_evening(story))
            paper = refutation(story, claim)
            self.assertEqual(len(paper), 6)
            self.same(is_refutation(story, claim, paper), True)
            self.same(is_refutation(story, claim, paper[:5]), False)
            self.same(is_refutation(story, None, paper), False)

    def test_the_first_cases_without_finding_the_rest(self):
        house = crowd(6)
        leavings = tuple([("out", guest) for guest in house.guests])
        # Twenty lots for each fact, in each of the 720 wearings.
        facts = [("ahead", ("in", guest), 4, leavings) for guest in house.guests] * 2
        story = Story(house, house.guests, facts)
        late = [("before", ("in", guest), event) for guest in house.guests for event in leavings[:3]] * 2
        with within(20):
            first, second = islice(cases_of(story), 2)
            self.same((first.wearing, first.facts), (house.guests, tuple(late)))
            self.same(second.facts, tuple(late[:-1]) + (("before", ("in", "g5"), leavings[3]),))
            self.assertIs(fits(story, first_evening(story)), True)
            self.assertIsNone(refutation(story))
            self.assertEqual(next(cases_of(story, Claim.of(facts[0]) | Claim.of(facts[1]))).facts,
                             tuple(late) + tuple(late[:3]))

    def test_a_fact_without_a_choice_behind_very_many_choices(self):
        house = crowd(6)
        leavings = tuple([("out", guest) for guest in house.guests])
        facts = [("ahead", ("in", guest), 4, leavings) for guest in house.guests]
        with within(20):
            self.assertEqual(found_cases(Story(house, house.guests, facts + [("hung", ("in", "g0"), 1, ("g0",))])), [])
            story = Story(house, house.guests, facts + [("spared", "g0", "g0")])
            self.assertEqual(next(cases_of(story)).wearing, ("g1", "g0", "g2", "g3", "g4", "g5"))
            self.assertEqual(next(cases_of(Story(house, house.guests, facts), Claim.of(("wore", "g5", "g0")))).wearing,
                             ("g1", "g2", "g3", "g4", "g5", "g0"))

    def test_a_claim_of_very_many_facts(self):
        claim = Claim.every([Claim.of(("chose", "g0", depth)) for depth in range(1, 41)])
        for _ in range(5):
            claim = claim & claim
        story = Story(crowd(2), ["g0", "g1"], [("wore", "g0", "g0")])
        self.assertEqual([len(case.facts) for case in cases_of(story, claim)], [40])


class Evenings(PromiseCase):
    def check(self, story, claim):
        evening, paper = first_evening(story, claim), refutation(story, claim)
        whole = [case for case in cases_of(story, claim) if hurry(case).whole]
        if whole:
            self.same(evening, hurry(whole[0]).steps)
            self.same(evening, plain_hurry(whole[0])[0])
            self.assertIsNone(paper)
            self.assertIs(fits(story, evening) and (claim is None or keeps(story.house, evening, claim)), True)
        else:
            self.assertIsNone(evening)
            due = [(case.wearing, case.facts, hurry(case).levels, hurry(case).come) for case in cases_of(story, claim)]
            self.same(paper, tuple(due))
            self.assertEqual(fitting(story, claim), [])
            self.same(is_refutation(story, claim, paper), True)

    def test_first_evening(self):
        story = Story(House(GUESTS), GUESTS)
        self.same(first_evening(story), (
            ("in", ADA), ("out", ADA, ADA), ("in", BOB), ("out", BOB, BOB), ("in", CLEO), ("out", CLEO, CLEO),
        ))
        self.same(first_evening(story, Claim.of(("before", IN_CLEO, OUT_ADA)) & Claim.of(("wore", ADA, CLEO))), (
            ("in", ADA), ("in", BOB), ("out", BOB, ADA), ("in", CLEO), ("out", CLEO, BOB), ("out", ADA, CLEO),
        ))
        self.assertIsNone(first_evening(story, Claim.of(("before", IN_CLEO, IN_ADA))))

    def test_refutation(self):
        claim = Claim.of(("before", OUT_ADA, IN_BOB))
        story = Story(PAIR, [ADA, BOB], [("settled", BOB, 1), ("chose", ADA, 1)])
        told = ("before", IN_ADA, OUT_BOB), ("before", OUT_BOB, OUT_ADA)
        # Only if bob leaves in its own cloak, ada's can hang as a better one.
        self.same(refutation(story, claim), (
            ((ADA, BOB), told + (("chose", ADA, 1), ("before", OUT_ADA, IN_BOB)), (None, None), 1),
        ))
        self.same(refutation(story), (((ADA, BOB), told + (("chose", ADA, 1),), (None, None), 2),))
        self.same(refutation(Story(PAIR, [ADA, BOB]), Claim.of(("chose", ADA, 0))), (
            ((ADA, BOB), (("chose", ADA, 0),), (None, None), 2),
            ((BOB, ADA), (("chose", ADA, 0),), (None, 2), 2),
        ))

    def test_no_case(self):
        story = Story(PAIR, [ADA, BOB], [("wore", ADA, ADA), ("wore", BOB, ADA)])
        for claim in (None, Claim.of(("chose", ADA, 5))):
            self.assertIsNone(first_evening(story, claim))
            self.same(refutation(story, claim), ())
            self.same(is_refutation(story, claim, ()), True)
            self.same(is_refutation(story, claim, [((ADA, BOB), (), (None, None), 0)]), True)

    def test_every_story_of_the_samples(self):
        for story, claim in bounded_stories(12):
            for told in (None, claim, ~claim):
                self.check(story, told)

    def test_houses_without_facts(self):
        for house, book in sample_houses():
            self.check(Story(house, book), None)
            self.check(Story(house, book, [("before", ("out", book[-1]), ("in", book[0]))]), None)


class Papers(PromiseCase):
    # Two cases for each of two wearings; in TURNED the last guest of the book is cleo.
    STORY = Story(TURNED, TURNED_BOOK, [("ahead", OUT_CLEO, 2, (IN_CLEO, OUT_ADA)), ("wore", BOB, BOB),
                                        ("before", IN_CLEO, OUT_ADA), ("after", IN_CLEO, 1, (OUT_ADA, OUT_CLEO))])

    def refutes(self, paper, due, story=None, claim=None):
        story = self.STORY if story is None else story
        self.same(is_refutation(story, claim, paper), due)
        self.same(is_refutation(story, claim, listed(paper)), due)

    def test_the_paper_and_its_items_in_another_order(self):
        paper = refutation(self.STORY)
        self.assertEqual(len(paper), 4)
        self.refutes(paper, True)
        for other in permutations(paper):
            self.refutes(other, True)
        self.refutes(paper + paper, True)
        self.refutes(paper[:1] * 3 + paper[1:] + paper[2:3], True)

    def test_an_item_is_left_out(self):
        paper = refutation(self.STORY)
        for at in range(4):
            self.refutes(paper[:at] + paper[at + 1:], False)
            self.refutes(paper[:at] + paper[at + 1:] * 2, False)
        self.refutes((), False)

    def test_a_paper_with_levels_that_show_nothing(self):
        paper = refutation(self.STORY)
        for at, (wearing, facts, levels, come) in enumerate(paper):
            case = Case(TURNED, TURNED_BOOK, wearing, facts)
            for other in ((0, 0, 0), (3, 3, 3), (1, 1, 1), (None, None, None), (2, None, 2), (None, 2, None)):
                for number in range(4):
                    due = plain_closed(case, other, number)
                    self.refutes(paper[:at] + ((wearing, facts, other, number),) + paper[at + 1:], due)
            for number in range(4):
                due = plain_closed(case, levels, number)
                self.refutes(paper[:at] + ((wearing, facts, levels, number),) + paper[at + 1:], due)
            self.refutes(paper[:at] + ((wearing, facts, (0, 0, 0), 3),) + paper[at + 1:], False)

    def test_of_several_items_one_is_enough(self):
        paper = refutation(self.STORY)
        for at, (wearing, facts, _, _) in enumerate(paper):
            spoilt = (wearing, facts, (0, 0, 0), 3)
            self.refutes(paper[:at] + (spoilt,) + paper[at:], True)
            self.refutes(paper + (spoilt, spoilt), True)
            self.refutes(paper[:at] + (spoilt, spoilt) + paper[at + 1:], False)

    def test_other_facts_and_another_order_of_the_facts(self):
        paper = refutation(self.STORY)
        for at, (wearing, facts, levels, come) in enumerate(paper):
            self.assertEqual(len(facts), 3)
            for other in list(permutations(facts))[1:] + [facts[:2], facts[1:], facts + facts[:1], ()]:
                spoilt = (wearing, other, levels, come)
                self.refutes(paper[:at] + (spoilt,) + paper[at + 1:], False)
                self.refutes(paper[:at] + (spoilt,) + paper[at:], True)

    def test_items_for_other_wearings(self):
        paper = refutation(self.STORY)
        others = [((ADA, CLEO, BOB), (), (None, None, None), 0), ((BOB, ADA, CLEO), paper[0][1], (3, 3, 3), 3)]
        for other in others:
            self.refutes((other,) + paper, True)
            self.refutes((other,) + paper[1:], False)
        for at, (_, facts, levels, come) in enumerate(paper):
            self.refutes(paper[:at] + (((CLEO, ADA, BOB), facts, levels, come),) + paper[at + 1:], False)

    def test_levels_of_ones_own_making(self):
        # Before anybody has come nobody may leave: it is enough that bob is not taken as gone at 0.
        story = Story(PAIR, [ADA, BOB], [("before", OUT_BOB, IN_ADA)])
        paper = [((ADA, BOB), story.facts, (0, None), 0), ((BOB, ADA), story.facts, (2, 1), 0)]
        self.refutes(paper, True, story)
        self.refutes([paper[0], ((BOB, ADA), story.facts, (2, 0), 0)], False, story)

    def test_equal_cases_need_one_item(self):
        story = Story(PAIR, [ADA, BOB], [("chose", ADA, 0), ("wore", ADA, ADA)])
        claim = Claim.of(("wore", BOB, BOB)) | Claim.of(("spared", BOB, ADA))
        paper = refutation(story, claim)
        self.assertEqual((len(paper), paper[0]), (2, paper[1]))
        self.refutes(paper[:1], True, story, claim)

    def test_with_a_claim(self):
        story = Story(House(GUESTS), GUESTS, [("wore", ADA, BOB)])
        claim = Claim.of(("before", OUT_ADA, IN_BOB)) | Claim.of(("chose", BOB, 0))
        paper = refutation(story, claim)
        self.assertEqual(len(paper), 4)
        self.refutes(paper, True, story, claim)
        for at in range(4):
            self.refutes(paper[:at] + paper[at + 1:], False, story, claim)
        self.refutes(paper, False, story, ~claim)
        self.refutes(paper, False, story)
        self.refutes(refutation(self.STORY), True, self.STORY)
        self.refutes(refutation(self.STORY), False, self.STORY, Claim.of(("chose", ADA, 1)))
        self.refutes((), True, story, Claim.of(("wore", ADA, CLEO)))

    def test_no_paper_refutes_what_some_evening_fits(self):
        stories = list(bounded_stories(4))
        papers = [refutation(story, claim) for story, claim in stories]
        items = sum([paper for paper in papers if paper is not None], ())
        for story, claim in stories:
            for told in (None, claim, ~claim):
                if len(story.house) == 3 and fitting(story, told):
                    self.refutes([item for item in items if len(item[0]) == 3], False, story, told)

    def test_no_argument_is_changed(self):
        paper = listed(refutation(self.STORY))
        is_refutation(self.STORY, None, paper)
        self.assertEqual(paper, listed(refutation(self.STORY)))
        for wearing, facts, levels, come in paper:
            self.same(is_closed(Case(TURNED, TURNED_BOOK, wearing, facts), levels, come), True)
