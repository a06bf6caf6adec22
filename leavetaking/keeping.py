"""Whether evenings keep claims, and the lots of facts of which a claim is a choice (points 33 and 34)."""

from leavetaking.claims import check_claim
from leavetaking.common import different, frozen
from leavetaking.meanings import holds


def keeps(house, evening, claim):
    """Whether the evening keeps the claim."""
    check_claim(house, claim)
    return _is_kept(house, frozen(evening), claim.form)


def lots_of(claim):
    """The lots of facts of which the claim is a choice, in order."""
    return _lots_in(claim.form)


def _is_kept(house, evening, form):
    """Whether the evening keeps the form."""
    if form[0] == "fact":
        return holds(house, evening, form[1])
    _, one, two = form
    if form[0] == "and":
        return _is_kept(house, evening, one) and _is_kept(house, evening, two)
    return _is_kept(house, evening, one) or _is_kept(house, evening, two)


def _lots_in(form):
    """The lots of the form."""
    if form[0] == "fact":
        return ((form[1],),)
    ones, twos = _lots_in(form[1]), _lots_in(form[2])
    if form[0] == "or":
        return different(ones + twos)
    return different([different(one + two) for one in ones for two in twos])
