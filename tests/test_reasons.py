"""Points 48 and 50: reasons for a claim, and facts without which it is open."""

from leavetaking.claims import Claim
from leavetaking.errors import BadFact
from leavetaking.houses import House
from leavetaking.quarrels import least_quarrels
from leavetaking.reasons import freed_by, least_reasons
from leavetaking.stories import Story

from tests.helpers import ADA, BOB, CLEO, GUESTS, PromiseCase, fitting, many_facts, plain_least, says, says_form

IN_ADA, IN_BOB, IN_CLEO = [("in", guest) for guest in GUESTS]
OUT_ADA, OUT_BOB, OUT_CLEO = [("out", guest) for guest in GUESTS]
EMPTY = Story(House(GUESTS), GUESTS)
ALWAYS = Claim.of(("before", IN_ADA, OUT_CLEO))
STRANGE = ("chose", "zoe", 1)
STRANGERS = Claim.of(("wore", ADA, BOB)) & (Claim.of(STRANGE) | Claim.of(("wore", "yves", ADA)))


def story_with(*facts):
    """A story of three guests."""
    return Story(House(GUESTS), GUESTS, facts)


def rows_of(story, claim):
    """For each evening of the house and the book which of the facts hold, and whether it keeps the claim."""
    return [([says(story.house, evening, fact) for fact in story.facts], says_form(story.house, evening, claim.form))
            for evening in fitting(Story(story.house, story.book))]


class Reasons(PromiseCase):
    def check(self, story, claim):
        rows = rows_of(story, claim)
        due = plain_least(len(story), lambda lot: all(kept for so, kept in rows if all(so[index] for index in lot)))
        self.same(least_reasons(story, claim), due)
        return due

    def test_reasons_in_order(self):
        story = story_with(("before", OUT_ADA, IN_CLEO), ("spared", ADA, ADA), ("wore", CLEO, CLEO), ("wore", BOB, ADA))
        claim = Claim.of(("wore", ADA, BOB))
        self.same(least_reasons(story, claim), ((0, 1), (0, 3), (1, 2), (2, 3)))
        self.check(story, claim)
        self.same(least_reasons(story, Claim.of(("spared", ADA, ADA))), ((1,), (3,)))
        self.same(least_reasons(story, Claim.of(("wore", BOB, CLEO))), ())
        self.same(least_reasons(story, claim | Claim.of(("wore", BOB, BOB))), ((2,), (0, 1), (0, 3)))

    def test_the_empty_lot(self):
        for story in (EMPTY, story_with(("wore", ADA, BOB)), story_with(("chose", ADA, 0), ("wore", ADA, ADA))):
            self.same(least_reasons(story, ALWAYS), ((),))

    def test_no_fact(self):
        self.same(least_reasons(EMPTY, Claim.of(("wore", ADA, BOB))), ())
        self.same(least_reasons(EMPTY, ~ALWAYS), ())

    def test_a_least_quarrel_is_a_reason_for_every_claim(self):
        story = story_with(("wore", ADA, BOB), ("before", OUT_ADA, IN_BOB), ("chose", BOB, 0))
        self.same(least_reasons(story, ~ALWAYS), ((2,), (0, 1)))
        self.same(least_reasons(story, ~ALWAYS), least_quarrels(story))
        self.same(least_reasons(story, Claim.of(("wore", ADA, BOB))), ((0,), (2,)))

    def test_equal_facts(self):
        told = ("wore", ADA, BOB)
        self.same(least_reasons(story_with(told, told, told), Claim.of(("spared", BOB, BOB))), ((0,), (1,), (2,)))

    def test_all_evenings_of_small_houses(self):
        sizes = set()
        for story, claim in many_facts(8):
            for told in (claim, ~claim):
                for reason in self.check(story, told):
                    sizes.add(len(reason))
        self.assertEqual(sizes, {0, 1, 2})

    def test_a_reason_of_three_facts(self):
        story = story_with(
            ("wore", ADA, CLEO), ("spared", ADA, BOB), ("there", OUT_BOB, 1, (CLEO,)), ("spared", BOB, BOB),
            ("before", OUT_CLEO, OUT_BOB), ("spared", ADA, ADA),
        )
        claim = Claim.of(("wore", BOB, ADA)) & Claim.of(("wore", ADA, CLEO))
        self.assertIn((1, 3, 5), self.check(story, claim))

    def test_strangers(self):
        for story in (EMPTY, story_with(("wore", ADA, BOB)), story_with(("chose", ADA, 0))):
            self.same(self.refused(BadFact, least_reasons, story, STRANGERS).fact, STRANGE)
            self.same(self.refused(BadFact, least_reasons, story, ~STRANGERS).fact, ("settled", "zoe", 1))


class Freed(PromiseCase):
    def check(self, story, claim):
        rows = rows_of(story, claim)

        def is_open(lot):
            told = [index for index in range(len(story)) if index not in lot]
            return {kept for so, kept in rows if all(so[index] for index in told)} == {True, False}

        due = plain_least(len(story), is_open)
        self.same(freed_by(story, claim), due)
        return due

    def test_lots_in_order(self):
        story = story_with(("before", OUT_ADA, IN_CLEO), ("spared", ADA, ADA), ("wore", CLEO, CLEO), ("wore", BOB, ADA))
        claim = Claim.of(("wore", ADA, BOB))
        self.same(freed_by(story, claim), ((0, 2), (1, 3)))
        self.check(story, claim)
        self.same(freed_by(story, Claim.of(("spared", ADA, ADA))), ((1, 3),))

    def test_open_already(self):
        for story in (EMPTY, story_with(("wore", ADA, BOB), ("before", OUT_BOB, IN_CLEO))):
            self.same(freed_by(story, Claim.of(("before", IN_CLEO, OUT_ADA))), ((),))

    def test_never_open(self):
        for claim in (ALWAYS, ~ALWAYS):
            for story in (EMPTY, story_with(("wore", ADA, BOB)), story_with(("chose", ADA, 0))):
                self.same(freed_by(story, claim), ())

    def test_claims_that_are_sure_that_are_never_so_and_stories_that_no_evening_fits(self):
        claim = Claim.of(("wore", ADA, BOB))
        self.same(freed_by(story_with(("wore", CLEO, CLEO), ("wore", ADA, ADA)), claim), ((1,),))
        self.same(freed_by(story_with(("wore", ADA, ADA), ("wore", ADA, BOB)), claim), ((0, 1),))
        self.same(freed_by(story_with(("wore", ADA, ADA), ("wore", BOB, ADA)), claim), ((0,),))
        self.same(freed_by(story_with(("chose", BOB, 0)), claim), ((0,),))

    def test_equal_facts(self):
        told, other = ("wore", ADA, BOB), ("wore", BOB, ADA)
        self.same(freed_by(story_with(told, other, told), Claim.of(told)), ((0, 2),))
        self.same(freed_by(story_with(other, told, other), Claim.of(told)), ((1,),))

    def test_all_evenings_of_small_houses(self):
        sizes = set()
        for story, claim in many_facts(8):
            for told in (claim, ~claim):
                for lot in self.check(story, told):
                    sizes.add(len(lot))
        self.assertGreater(len(sizes), 3)

    def test_strangers(self):
        for story in (EMPTY, story_with(("wore", ADA, BOB)), story_with(("chose", ADA, 0))):
            self.same(self.refused(BadFact, freed_by, story, STRANGERS).fact, STRANGE)
            self.same(self.refused(BadFact, freed_by, story, ~STRANGERS).fact, ("settled", "zoe", 1))
