"""Whether the evenings that fit one story fit another one (point 45)."""

from leavetaking.casework import first_evening, is_refutation, refutation
from leavetaking.claims import Claim
from leavetaking.facts import contrary
from leavetaking.stories import check_comparable


class Inclusion:
    """Whether a story is inside of another one, an evening that is not, and the papers that show that it is."""

    def __init__(self, inside, evening, papers):
        self.inside = inside
        self.evening = evening
        self.papers = papers


def include(one, two):
    """Whether every evening that fits the one story fits the other."""
    check_comparable(one, two)
    evening = _evening_only_of(one, two)
    if evening is not None:
        return Inclusion(False, evening, ())
    return Inclusion(True, None, tuple([refutation(one, _denial(fact)) for fact in two.facts]))


def is_inclusion(one, two, papers):
    """Whether there is a paper for each fact of the other story that shows that the fact holds in the one."""
    check_comparable(one, two)
    if len(papers) != len(two):
        return False
    return all([is_refutation(one, _denial(fact), paper) for fact, paper in zip(two.facts, papers)])


def are_alike(one, two):
    """Whether the same evenings fit the two stories."""
    check_comparable(one, two)
    return _evening_only_of(one, two) is None and _evening_only_of(two, one) is None


def _evening_only_of(one, two):
    """An evening that fits the one story and breaks the first fact of the other that can be broken, or None."""
    for fact in two.facts:
        evening = first_evening(one, _denial(fact))
        if evening is not None:
            return evening
    return None


def _denial(fact):
    """The claim that the fact does not hold."""
    return Claim.of(contrary(fact))
