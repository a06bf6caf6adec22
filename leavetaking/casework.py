"""The cases of a story, and what follows from all of them (points 35 to 37)."""

from leavetaking.cases import Case
from leavetaking.choices import choices
from leavetaking.claims import check_claim
from leavetaking.common import frozen
from leavetaking.hurrying import hurry
from leavetaking.keeping import lots_of
from leavetaking.levels import is_closed


def cases_of(story, claim=None):
    """All cases of the story, and of the claim if one is given, in order."""
    lots = claimed_lots(story, claim)
    for wearing in told_wearings(story):
        yield from cases_worn(story, lots, wearing)


def first_evening(story, claim=None):
    """The hurried evening of the first case in which it is whole, or None."""
    lots = claimed_lots(story, claim)
    for wearing in told_wearings(story):
        evening = evening_worn(story, lots, wearing)
        if evening is not None:
            return evening
    return None


def refutation(story, claim=None):
    """For each case what shows that no evening fits it; None if some evening fits some case."""
    paper = []
    for case in cases_of(story, claim):
        hurried = hurry(case)
        if hurried.whole:
            return None
        paper.append((case.wearing, case.facts, hurried.levels, hurried.come))
    return tuple(paper)


def is_refutation(story, claim, paper):
    """Whether the paper shows for each case that no evening fits it."""
    told = {}
    for wearing, facts, levels, come in frozen(paper):
        told.setdefault((wearing, facts), []).append((levels, come))
    for case in cases_of(story, claim):
        shown = told.get((case.wearing, case.facts), [])
        if not any([is_closed(case, levels, come) for levels, come in shown]):
            return False
    return True


# The following are for what asks for the cases of one wearing after the other. Torn stories are passed to all but the
# last two of them, too.


def claimed_lots(story, claim):
    """The lots of the claim, which is one for the story, or without a claim one empty lot."""
    if claim is None:
        return ((),)
    check_claim(story.house, claim)
    return lots_of(claim)


def told_wearings(story):
    """All wearings that agree with the wearers of the story, ascending."""
    wearers = story.wearers
    told = [cloak for cloak in wearers if cloak is not None]
    free = [cloak for cloak in story.house.guests if cloak not in told]
    # If two guests are told to have left in the same cloak, there is no wearing to go through.
    if len(told) + len(free) == len(wearers):
        yield from _wearings_from(wearers, free, ())


def facts_worn(story, lots, wearing):
    """The facts of all cases with this wearing, where the claim has these lots, in order."""
    house = story.house
    told = _parts(house, wearing, story.facts)
    if not all(told):
        return
    for lot in lots:
        parts = told + _parts(house, wearing, lot)
        if all(parts):
            yield from _ways(parts)


def cases_worn(story, lots, wearing):
    """All cases with this wearing, where the claim has these lots, in order."""
    for facts in facts_worn(story, lots, wearing):
        yield Case(story.house, story.book, wearing, facts)


def evening_worn(story, lots, wearing):
    """The hurried evening of the first of these cases in which it is whole, or None."""
    for case in cases_worn(story, lots, wearing):
        hurried = hurry(case)
        if hurried.whole:
            return hurried.steps
    return None


def _wearings_from(wearers, free, worn):
    """All wearings that begin with these worn cloaks, where those without a wearer take the free ones."""
    if len(worn) == len(wearers):
        yield worn
        return
    told = wearers[len(worn)]
    cloaks = free if told is None else [told]
    for cloak in cloaks:
        longer = worn + (cloak,)
        rest = [other for other in free if other != cloak]
        yield from _wearings_from(wearers, rest, longer)


def _parts(house, wearing, facts):
    """The choices of each of the facts, but of none behind the first fact that has no choice."""
    parts = []
    for fact in facts:
        parts.append(choices(house, wearing, fact))
        if not parts[-1]:
            break
    return parts


def _ways(parts):
    """The facts of all ways to choose one lot of each part; the last part changes fastest. No part is empty."""
    places = [0] * len(parts)
    at = 0
    while at >= 0:
        yield tuple([fact for lots, place in zip(parts, places) for fact in lots[place]])
        at = len(parts) - 1
        while at >= 0 and places[at] + 1 == len(parts[at]):
            places[at] = 0
            at -= 1
        if at >= 0:
            places[at] += 1
