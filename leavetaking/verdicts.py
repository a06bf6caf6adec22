"""Verdicts on claims, with what shows that they are right (point 38)."""

from leavetaking.casework import first_evening, is_refutation, refutation
from leavetaking.claims import check_claim
from leavetaking.common import frozen
from leavetaking.fitting import fits
from leavetaking.keeping import keeps


class Verdict:
    """A word on a claim, an evening that keeps it, one that breaks it, and the paper that the word needs."""

    def __init__(self, word, keeping, breaking, paper):
        self.word = word
        self.keeping = keeping
        self.breaking = breaking
        self.paper = paper


def verdict(story, claim):
    """The verdict on the claim for the story."""
    keeping = first_evening(story, claim)
    breaking = first_evening(story, ~claim)
    word = word_with(keeping, breaking)
    if word == "open":
        return Verdict(word, keeping, breaking, ())
    return Verdict(word, keeping, breaking, refutation(story, refuted_by(word, claim)))


def word_on(story, claim):
    """The word of the verdict on the claim for the story."""
    return word_with(first_evening(story, claim), first_evening(story, ~claim))


def word_with(keeping, breaking):
    """The word, if these are evenings that fit and keep and break the claim, or None without such an evening."""
    if keeping is None:
        return "none" if breaking is None else "never"
    return "sure" if breaking is None else "open"


def refuted_by(word, claim):
    """The claim that the paper for the word refutes; None if it refutes the story without a claim."""
    if word == "none":
        return None
    return ~claim if word == "sure" else claim


def is_verdict(story, claim, word, papers):
    """Whether the pair of papers and evenings shows that the word is that of the verdict."""
    check_claim(story.house, claim)
    if word not in ("none", "sure", "never", "open"):
        return False
    one, two = frozen(papers)
    if word == "open":
        return _is_such(story, claim, one) and _is_such(story, ~claim, two)
    evening_due = one is None if word == "none" else fits(story, one)
    return evening_due and is_refutation(story, refuted_by(word, claim), two)


def _is_such(story, claim, steps):
    """Whether the steps are an evening that fits the story and keeps the claim."""
    return fits(story, steps) and keeps(story.house, steps, claim)
