"""Verdicts on claims for torn stories, with what shows that they are right (point 72)."""

from leavetaking.casework import claimed_lots, facts_worn, told_wearings
from leavetaking.common import frozen
from leavetaking.opencases import OpenCase
from leavetaking.situations import is_open_table, open_evening, open_situations
from leavetaking.verdicts import Verdict, refuted_by, word_with


def open_cases(torn, claim=None):
    """All cases of the torn story, and of the claim if one is given, in order."""
    lots = claimed_lots(torn, claim)
    for wearing in told_wearings(torn):
        for facts in facts_worn(torn, lots, wearing):
            yield OpenCase(torn.house, wearing, facts)


def open_first(torn, claim=None):
    """The evening of the first case that has one, or None."""
    for case in open_cases(torn, claim):
        evening = open_evening(case)
        if evening is not None:
            return evening
    return None


def open_refutation(torn, claim=None):
    """For each case what shows that no evening fits it; None if some evening fits some case."""
    everybody = torn.house.guests
    paper = []
    for case in open_cases(torn, claim):
        table = open_situations(case)
        if (everybody, everybody) in table:
            return None
        paper.append((case.wearing, case.facts, table))
    return tuple(paper)


def is_open_refutation(torn, claim, paper):
    """Whether the paper shows for each case that no evening fits it."""
    told = {}
    for wearing, facts, table in frozen(paper):
        told.setdefault((wearing, facts), []).append(table)
    for case in open_cases(torn, claim):
        shown = told.get((case.wearing, case.facts), [])
        if not any([is_open_table(case, table) for table in shown]):
            return False
    return True


def open_verdict(torn, claim):
    """The verdict on the claim for the torn story."""
    keeping = open_first(torn, claim)
    breaking = open_first(torn, ~claim)
    word = word_with(keeping, breaking)
    if word == "open":
        return Verdict(word, keeping, breaking, ())
    return Verdict(word, keeping, breaking, open_refutation(torn, refuted_by(word, claim)))
