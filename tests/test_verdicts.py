"""Point 38: verdicts."""

from leavetaking.casework import first_evening, refutation
from leavetaking.claims import Claim
from leavetaking.errors import BadFact
from leavetaking.evenings import evenings
from leavetaking.houses import House
from leavetaking.stories import Story
from leavetaking.verdicts import Verdict, is_verdict, verdict

from tests.helpers import (
    ADA, BOB, PromiseCase, bounded_stories, crowd, fitting, listed, within,
)

PAIR = House([ADA, BOB])
IN_ADA, IN_BOB, OUT_ADA, OUT_BOB = [(word, guest) for word in ("in", "out") for guest in (ADA, BOB)]
STRANGE = ("wore", "zoe", ADA)
WORDS = ("none", "sure", "never", "open")
NO_WORDS = ("", "Sure", "sure ", "maybe", "keeping", "None", "opened")

OPEN = Claim.of(("before", OUT_ADA, OUT_BOB))
SURE = Claim.of(("chose", BOB, 1))
NEVER = Claim.of(("wore", ADA, BOB)) & Claim.of(("before", OUT_ADA, IN_BOB))


def spoilt(paper):
    """The paper, spoilt in one place each, so that it shows nothing."""
    for at, (wearing, facts, levels, come) in enumerate(paper):
        rest = (wearing[::-1], facts, levels, come), (wearing, facts + (("chose", ADA, 1),), levels, come)
        nobody = (wearing, facts, (0,) * len(levels), len(levels))
        for item in rest + (nobody,):
            yield paper[:at] + (item,) + paper[at + 1:]
        yield paper[:at] + paper[at + 1:]


class Verdicts(PromiseCase):
    def check(self, story, claim, word):
        found = verdict(story, claim)
        self.assertIsInstance(found, Verdict)
        keeping, breaking = first_evening(story, claim), first_evening(story, ~claim)
        papers = {"none": (None,), "sure": (~claim,), "never": (claim,), "open": ()}[word]
        paper = refutation(story, *papers) if papers else ()
        self.same((found.word, found.keeping, found.breaking, found.paper), (word, keeping, breaking, paper))
        self.assertIs(found.keeping is None, word in ("none", "never"))
        self.assertIs(found.breaking is None, word in ("none", "sure"))
        return found

    def test_every_word(self):
        story = Story(PAIR, [ADA, BOB])
        self.check(story, OPEN, "open")
        self.assertNotEqual(self.check(story, SURE, "sure").paper, ())
        self.assertNotEqual(self.check(story, NEVER, "never").paper, ())
        for claim in (OPEN, SURE, NEVER):
            self.assertNotEqual(self.check(story.told(("chose", ADA, 0)), claim, "none").paper, ())
            self.assertEqual(self.check(story.told(("there", IN_ADA, 1, (ADA,))), claim, "none").paper, ())

    def test_evenings_and_papers(self):
        story = Story(PAIR, [ADA, BOB], [("wore", ADA, BOB)])
        found = self.check(story, Claim.of(("before", OUT_ADA, OUT_BOB)), "never")
        self.same(found.breaking, (("in", ADA), ("in", BOB), ("out", BOB, ADA), ("out", ADA, BOB)))
        self.same(found.paper, (((BOB, ADA), (("before", OUT_ADA, OUT_BOB),), (None, None), 2),))
        found = self.check(story, Claim.of(("before", OUT_BOB, OUT_ADA)), "sure")
        self.same(found.keeping, (("in", ADA), ("in", BOB), ("out", BOB, ADA), ("out", ADA, BOB)))
        self.same(found.paper, (((BOB, ADA), (("before", OUT_ADA, OUT_BOB),), (None, None), 2),))
        found = self.check(story.told(("chose", BOB, 0)), OPEN, "none")
        self.same(found.paper, (((BOB, ADA), (("chose", BOB, 0),), (None, None), 2),))

    def test_as_all_evenings_tell(self):
        words = set()
        for story, claim in bounded_stories(12):
            fit, keep = fitting(story), fitting(story, claim)
            due = "none" if not fit else "sure" if fit == keep else "open" if keep else "never"
            found = self.check(story, claim, due)
            words.add(due)
            if keep:
                self.assertIn(found.keeping, keep)
            if fit != keep:
                self.assertTrue(found.breaking in fit and found.breaking not in keep)
        self.assertEqual(words, set(WORDS))

    def test_strangers(self):
        for story in (Story(PAIR, [ADA, BOB]), Story(PAIR, [ADA, BOB], [("hung", IN_ADA, 1, (ADA,))])):
            for claim in (Claim.of(STRANGE), SURE | Claim.of(STRANGE), NEVER & Claim.of(STRANGE)):
                self.same(self.refused(BadFact, verdict, story, claim).fact, STRANGE)

    def test_a_great_house(self):
        house = crowd(10)
        story = Story(house, house.guests, [("wore", guest, guest) for guest in house.guests[2:]])
        with within(20):
            self.check(story, Claim.of(("before", ("in", "g0"), ("out", "g1"))), "sure")
            self.check(story, Claim.of(("before", ("in", "g2"), ("out", "g1"))), "open")
            self.check(story, Claim.of(("wore", "g2", "g1")), "never")


class Judged(PromiseCase):
    STORY = Story(PAIR, [ADA, BOB])

    def judge(self, story, claim, word, papers, due):
        self.same(is_verdict(story, claim, word, papers), due)
        self.same(is_verdict(story, claim, word, listed(papers)), due)

    def test_what_verdict_tells(self):
        seen = set()
        for story, claim in bounded_stories(8):
            found = verdict(story, claim)
            seen.add(found.word)
            papers = {
                "none": (None, found.paper), "sure": (found.keeping, found.paper),
                "never": (found.breaking, found.paper), "open": (found.keeping, found.breaking),
            }[found.word]
            self.judge(story, claim, found.word, papers, True)
            for word in NO_WORDS:
                self.judge(story, claim, word, papers, False)
            if found.word in ("sure", "never"):
                self.judge(story, claim, {"sure": "never", "never": "sure"}[found.word], papers, False)
            for other in [word for word in WORDS if word not in ("open", found.word)] if found.word != "open" else ():
                self.judge(story, claim, other, (None if other == "none" else found.keeping or (), found.paper), False)
        self.assertEqual(seen, set(WORDS))

    def test_none(self):
        story = self.STORY.told(("chose", ADA, 0))
        paper = refutation(story)
        self.judge(story, OPEN, "none", (None, paper), True)
        for other in spoilt(paper):
            self.judge(story, OPEN, "none", (None, other), False)
        self.judge(self.STORY, OPEN, "none", (None, paper), False)
        self.judge(self.STORY, NEVER, "none", (None, refutation(self.STORY, NEVER)), False)
        self.judge(self.STORY.told(("ahead", OUT_ADA, 0, ())), OPEN, "none", (None, ()), True)

    def test_sure(self):
        paper = refutation(self.STORY, ~SURE)
        for evening in evenings(PAIR, [ADA, BOB]):
            self.judge(self.STORY, SURE, "sure", (evening, paper), True)
            for other in spoilt(paper):
                self.judge(self.STORY, SURE, "sure", (evening, other), False)
            for steps in (evening[:3], evening[1:], evening[::-1], evening + evening[:1], ()):
                self.judge(self.STORY, SURE, "sure", (steps, paper), False)
            # The evening is to fit the story, not only its house and book.
            story = self.STORY.told(("wore", ADA, ADA))
            self.judge(story, SURE, "sure", (evening, refutation(story, ~SURE)), ("out", ADA, ADA) in evening)
            self.judge(self.STORY, ~SURE, "sure", (evening, paper), False)
            self.judge(self.STORY, ~SURE, "never", (evening, paper), True)

    def test_never(self):
        paper = refutation(self.STORY, NEVER)
        for evening in evenings(PAIR, [ADA, BOB]):
            self.judge(self.STORY, NEVER, "never", (evening, paper), True)
            for other in spoilt(paper):
                self.judge(self.STORY, NEVER, "never", (evening, other), False)
            for steps in (evening[:3], evening[1:], evening[::-1], evening + evening[:1], ()):
                self.judge(self.STORY, NEVER, "never", (steps, paper), False)
            story = self.STORY.told(("wore", ADA, ADA))
            self.judge(story, NEVER, "never", (evening, refutation(story, NEVER)), ("out", ADA, ADA) in evening)
            self.judge(self.STORY, ~NEVER, "never", (evening, paper), False)
            self.judge(self.STORY, ~NEVER, "sure", (evening, paper), True)

    def test_open(self):
        story = self.STORY.told(("wore", ADA, ADA))
        for keeping in evenings(PAIR, [ADA, BOB]):
            for breaking in evenings(PAIR, [ADA, BOB]):
                due = keeping in fitting(story, OPEN) and breaking in fitting(story, ~OPEN)
                self.judge(story, OPEN, "open", (keeping, breaking), due)
                self.judge(story, ~OPEN, "open", (breaking, keeping), due)
                self.judge(story, SURE, "open", (keeping, breaking), False)
                self.judge(story, NEVER, "open", (keeping, breaking), False)
        story = Story(House([ADA, "cleo", BOB]), [ADA, BOB, "cleo"])
        found = verdict(story, OPEN)
        self.judge(story, OPEN, "open", (found.keeping, found.breaking), True)
        self.judge(story, OPEN, "open", (found.breaking, found.keeping), False)
        for steps in (found.keeping[:5], found.keeping[1:], (), found.keeping[::-1]):
            self.judge(story, OPEN, "open", (steps, found.breaking), False)
            self.judge(story, OPEN, "open", (found.keeping, steps), False)

    def test_none_of_the_four_words(self):
        for word in NO_WORDS:
            for papers in ((None, ()), (None, None), (1, "a"), ((), ()), (first_evening(self.STORY), ())):
                self.judge(self.STORY, SURE, word, papers, False)

    def test_strangers(self):
        evening, paper = first_evening(self.STORY), refutation(self.STORY, ~SURE)
        for claim in (Claim.of(STRANGE), SURE | Claim.of(STRANGE)):
            for word in WORDS + NO_WORDS:
                papers = {"none": (None, paper), "open": (evening, evening)}.get(word, (evening, paper))
                self.same(self.refused(BadFact, is_verdict, self.STORY, claim, word, papers).fact, STRANGE)
