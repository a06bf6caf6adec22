"""Point 49: facts that would settle a claim."""

from random import Random

from leavetaking.claims import Claim
from leavetaking.errors import BadFact
from leavetaking.facts import contrary
from leavetaking.houses import House
from leavetaking.settling import deciders, settling
from leavetaking.stories import Story

from tests.helpers import ADA, BOB, CLEO, GUESTS, PromiseCase, all_facts, listed, many_facts, plain_word

IN_ADA, IN_BOB, IN_CLEO = [("in", guest) for guest in GUESTS]
OUT_ADA, OUT_BOB, OUT_CLEO = [("out", guest) for guest in GUESTS]
EMPTY = Story(House(GUESTS), GUESTS)
CLAIM = Claim.of(("wore", ADA, ADA))
STRANGE = ("chose", "zoe", 1)
STRANGERS = CLAIM | Claim.of(STRANGE) | Claim.of(("wore", "yves", ADA))


class Settling(PromiseCase):
    def check(self, story, claim, facts):
        due = tuple([(plain_word(story.told(fact), claim), plain_word(story.told(contrary(fact)), claim))
                     for fact in facts])
        indexes = tuple([index for index, (one, two) in enumerate(due) if "open" not in (one, two)])
        for passed in (tuple(facts), listed(facts)):
            self.same(settling(story, claim, passed), due)
            self.same(deciders(story, claim, passed), indexes)
        return due

    def test_words(self):
        facts = [("wore", ADA, ADA), ("before", OUT_ADA, IN_BOB), ("chose", ADA, 0), ("before", IN_BOB, OUT_BOB),
                 ("spared", ADA, ADA), ("there", ("in", CLEO), 1, (ADA,))]
        self.same(settling(EMPTY, CLAIM, facts), (
            ("sure", "never"), ("sure", "open"), ("none", "open"), ("open", "none"), ("never", "sure"),
            ("open", "open"),
        ))
        self.same(deciders(EMPTY, CLAIM, facts), (0, 4))
        self.check(EMPTY, CLAIM, facts)

    def test_a_story_that_settles_it_already(self):
        story = EMPTY.told(("wore", ADA, BOB))
        facts = [("wore", BOB, ADA), ("before", OUT_ADA, IN_BOB), ("before", IN_BOB, OUT_ADA)]
        self.same(settling(story, CLAIM, facts), (("never", "never"), ("none", "never"), ("never", "none")))
        self.same(deciders(story, CLAIM, facts), (0, 1, 2))
        self.same(settling(story, ~CLAIM, facts), (("sure", "sure"), ("none", "sure"), ("sure", "none")))
        none = story.told(("chose", CLEO, 0))
        self.same(settling(none, CLAIM, facts), (("none", "none"),) * 3)
        self.same(deciders(none, CLAIM, facts), (0, 1, 2))

    def test_no_fact(self):
        for story in (EMPTY, EMPTY.told(("chose", ADA, 0))):
            self.same(settling(story, CLAIM, ()), ())
            self.same(deciders(story, CLAIM, []), ())

    def test_the_same_fact_twice(self):
        facts = [("wore", ADA, ADA), ("wore", CLEO, CLEO), ("wore", ADA, ADA)]
        self.same(settling(EMPTY, CLAIM, facts), (("sure", "never"), ("open", "open"), ("sure", "never")))
        self.same(deciders(EMPTY, CLAIM, facts), (0, 2))

    def test_all_evenings_of_small_houses(self):
        draw = Random(49)
        words = set()
        for story, claim in many_facts(4):
            if len(story) > 3:
                story = Story(story.house, story.book, story.facts[:2])
            facts = [fact for fact in all_facts(story.house) if len(fact) == 3 or len(fact[3]) <= 2]
            told = [draw.choice(facts) for _ in range(draw.choice((1, 3, 6)))]
            words.update(self.check(story, claim, told + [claim.facts[0]]))
        self.assertGreater(len(words), 9)

    def test_bad_facts_ahead_of_the_claim(self):
        for story in (EMPTY, EMPTY.told(("chose", ADA, 0))):
            for wrong in (STRANGE, ("wore", ADA), ("chose", ADA, -1), ("chose", ADA, True), (),
                          ("after", OUT_ADA, 1, (OUT_ADA,)), ("before", IN_ADA, IN_ADA)):
                for claim in (CLAIM, STRANGERS, Claim.of(("wore", "xena", ADA))):
                    for facts in ((wrong,), (("wore", ADA, BOB), wrong, ("wore", "yves", ADA))):
                        for passed in (facts, listed(facts)):
                            self.same(self.refused(BadFact, settling, story, claim, passed).fact, wrong)
                            self.same(self.refused(BadFact, deciders, story, claim, passed).fact, wrong)

    def test_strangers_in_the_claim(self):
        for story in (EMPTY, EMPTY.told(("chose", ADA, 0))):
            for facts in ((), (("wore", ADA, BOB),)):
                self.same(self.refused(BadFact, settling, story, STRANGERS, facts).fact, STRANGE)
                self.same(self.refused(BadFact, deciders, story, STRANGERS, facts).fact, STRANGE)

    def test_no_argument_is_changed(self):
        facts = [["wore", ADA, BOB], ["hung", ["out", ADA], 1, [BOB]]]
        settling(EMPTY, CLAIM, facts)
        deciders(EMPTY, CLAIM, facts)
        self.assertEqual(facts, [["wore", ADA, BOB], ["hung", ["out", ADA], 1, [BOB]]])
        self.same(EMPTY.facts, ())
