"""Which events are sure to come first, and how many guests have come at a leaving (point 39)."""

from leavetaking.books import events_of
from leavetaking.cases import Case
from leavetaking.casework import cases_of, first_evening
from leavetaking.errors import NoEvening
from leavetaking.houses import check_guests
from leavetaking.hurrying import hurry


def sure_order(story):
    """All pairs of events of which the first one happens earlier in every evening that fits."""
    events = events_of(story.house)
    pairs = [(event, other) for event in events for other in events if event != other]
    cases = []
    for case in cases_of(story):
        hurried = hurry(case)
        if hurried.whole:
            cases.append(case)
            pairs = _agreeing(pairs, hurried.steps)
    if not cases:
        raise NoEvening()
    # No guest leaves earlier than in the hurried evenings: what a coming is ahead of there, it is always ahead of.
    comings = [(event, other) for event, other in pairs if event[0] == "in"]
    leavings = [(event, other) for event, other in pairs if event[0] == "out"]
    return tuple(comings + _sure_among(cases, leavings))


def evening_with_number(story, guest, number):
    """An evening that fits and in which just so many guests have come when the guest leaves, or None."""
    check_guests(story.house, [guest])
    book = story.book
    if not 1 <= number <= len(book):
        return None
    if book[number - 1] != guest:
        story = story.told(("before", ("in", book[number - 1]), ("out", guest)))
    # A slice, because behind the last guest of the book there is none to come.
    for later in book[number:number + 1]:
        story = story.told(("before", ("out", guest), ("in", later)))
    return first_evening(story)


def coming_numbers(story, guest):
    """All numbers of guests that can have come when the guest leaves, ascending."""
    numbers = [number for number in range(1, len(story.book) + 1)
               if evening_with_number(story, guest, number) is not None]
    # In each evening that fits there is such a number.
    if not numbers:
        raise NoEvening()
    return tuple(numbers)


def _agreeing(pairs, evening):
    """Those of the pairs of events that stand in the evening in this order."""
    places = {step[:2]: place for place, step in enumerate(evening)}
    return [(event, other) for event, other in pairs if places[event] < places[other]]


def _sure_among(cases, pairs):
    """Those of the pairs of events that stand in this order in every evening that fits one of the cases."""
    sure = []
    while pairs:
        event, other = pairs[0]
        evening = _evening_told(cases, ("before", other, event))
        if evening is None:
            sure.append((event, other))
            pairs = pairs[1:]
        else:
            # Not only this pair goes: the fewer are left, the fewer evenings are looked for.
            pairs = _agreeing(pairs, evening)
    return sure


def _evening_told(cases, fact):
    """An evening that fits one of the cases and in which the plain fact holds, or None."""
    for case in cases:
        hurried = hurry(Case(case.house, case.book, case.wearing, case.facts + (fact,)))
        if hurried.whole:
            return hurried.steps
    return None
