"""Facts about an evening and their contraries (points 15 to 17)."""

from leavetaking.common import frozen, is_whole
from leavetaking.errors import BadFact

CONTRARIES = {
    "wore": "spared",
    "spared": "wore",
    "hung": "bare",
    "bare": "hung",
    "there": "away",
    "away": "there",
    "after": "ahead",
    "ahead": "after",
    "chose": "settled",
    "settled": "chose",
}


def is_fact(house, value):
    """Whether the value, with tuples at every level, is a fact for the house."""
    if len(value) == 3:
        return _is_short_fact(house, value)
    return len(value) == 4 and _is_long_fact(house, value)


def _is_short_fact(house, value):
    """Whether the three items are a fact."""
    kind, first, second = value
    if kind in ("wore", "spared"):
        return first in house and second in house
    if kind == "before":
        return _is_event(house, first) and _is_event(house, second) and first != second
    return kind in ("chose", "settled") and first in house and _is_count(second)


def _is_long_fact(house, value):
    """Whether the four items are a fact."""
    kind, event, count, row = value
    if not _is_event(house, event) or not _is_count(count) or not isinstance(row, tuple):
        return False
    if kind in ("hung", "bare", "there", "away"):
        fitting = all([item in house for item in row])
    else:
        fitting = kind in ("after", "ahead") and all([_is_event(house, item) and item != event for item in row])
    # Asked last: only what is known to be names or events may become members of a set.
    return fitting and len(set(row)) == len(row)


def _is_event(house, value):
    return isinstance(value, tuple) and len(value) == 2 and value[0] in ("in", "out") and value[1] in house


def _is_count(value):
    return is_whole(value) and value >= 0


def own_facts(house, facts):
    """The facts as a tuple; BadFact for the first one that is not a fact for the house."""
    facts = frozen(facts)
    for fact in facts:
        if not is_fact(house, fact):
            raise BadFact(fact)
    return facts


def contrary(fact):
    """The fact that holds in exactly those evenings in which this one does not."""
    fact = frozen(fact)
    if fact[0] == "before":
        return ("before", fact[2], fact[1])
    return (CONTRARIES[fact[0]],) + fact[1:]


def event_about(fact):
    """The event that the fact is about: when it happens, it can be told whether what the fact says is so."""
    if fact[0] == "before":
        return fact[2]
    if fact[0] in ("wore", "spared", "chose", "settled"):
        return ("out", fact[1])
    return fact[1]
