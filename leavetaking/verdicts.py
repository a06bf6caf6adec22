"""Verdicts on claims, with what shows that they are right (point 38)."""

from leavetaking.casework import first_evening, is_refutation, refutation
from leavetaking.claims import check_claim
from leavetaking.common import frozen
from leavetaking.fitting import fits
from leavetaking.keeping import keeps


class Verdict:
    """A word on a claim, an evening that keeps it, one that breaks it, and the paper that the word needs."""

    def __init__(self, word, keeping, breaking, paper):
        self.word = word
        self.keeping = keeping
        self.breaking = breaking
        self.paper = paper


def verdict(story, claim):
    """The verdict on the claim for the story."""
    contrary_claim = ~claim
    keeping = first_evening(story, claim)
    breaking = first_evening(story, contrary_claim)
    if keeping is None and breaking is None:
        return Verdict("none", keeping, breaking, refutation(story))
    if keeping is None:
        return Verdict("never", keeping, breaking, refutation(story, claim))
    if breaking is None:
        return Verdict("sure", keeping, breaking, refutation(story, contrary_claim))
    return Verdict("open", keeping, breaking, ())


def is_verdict(story, claim, word, papers):
    """Whether the pair of papers and evenings shows that the word is that of the verdict."""
    check_claim(story.house, claim)
    if word not in ("none", "sure", "never", "open"):
        return False
    one, two = frozen(papers)
    if word == "none":
        return one is None and is_refutation(story, None, two)
    if word == "sure":
        return fits(story, one) and is_refutation(story, ~claim, two)
    if word == "never":
        return fits(story, one) and is_refutation(story, claim, two)
    return _is_such(story, claim, one) and _is_such(story, ~claim, two)


def _is_such(story, claim, steps):
    """Whether the steps are an evening that fits the story and keeps the claim."""
    return fits(story, steps) and keeps(story.house, steps, claim)
