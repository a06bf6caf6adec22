"""Claims about an evening, put together from facts (points 32 and 33)."""

from leavetaking.common import different, frozen
from leavetaking.facts import contrary, own_facts


class Claim:
    """A claim never changes. It is made by `of`, `every` and `some` and by the operators."""

    def __init__(self, form):
        self.form = form

    @staticmethod
    def of(fact):
        """The claim that the fact holds."""
        return Claim(("fact", frozen(fact)))

    @staticmethod
    def every(claims):
        """The claim of all these claims."""
        claimed = claims[0]
        for claim in claims[1:]:
            claimed = claimed & claim
        return claimed

    @staticmethod
    def some(claims):
        """The claim of at least one of these claims."""
        claimed = claims[0]
        for claim in claims[1:]:
            claimed = claimed | claim
        return claimed

    @property
    def facts(self):
        """The different facts of the form, in the order in which they stand in it first."""
        return different(_facts_in(self.form))

    def __and__(self, other):
        return Claim(("and", self.form, other.form))

    def __or__(self, other):
        return Claim(("or", self.form, other.form))

    def __invert__(self):
        return Claim(_contrary_form(self.form))

    def __eq__(self, other):
        return isinstance(other, Claim) and self.form == other.form


def check_claim(house, claim):
    """BadFact for the first fact of the claim that is not one for the house."""
    own_facts(house, claim.facts)


def _facts_in(form):
    """All facts of the form, from left to right."""
    if form[0] == "fact":
        return [form[1]]
    return _facts_in(form[1]) + _facts_in(form[2])


def _contrary_form(form):
    """The form that is kept by exactly those evenings that break this one."""
    if form[0] == "fact":
        return ("fact", contrary(form[1]))
    word = "or" if form[0] == "and" else "and"
    return (word, _contrary_form(form[1]), _contrary_form(form[2]))
