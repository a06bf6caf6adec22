"""What becomes of a claim while the steps of an evening are made: for counts, odds and games."""

from leavetaking.books import events_of
from leavetaking.facts import event_about
from leavetaking.meanings import is_so


class Ruling:
    """One claim of a house and a book. Marks have for each fact of the claim None, or if it is settled, if it holds."""

    def __init__(self, house, book, claim):
        self._house = house
        self._book = book
        self._form = claim.form
        told = claim.facts
        self._numbers = {fact: number for number, fact in enumerate(told)}
        self._settled_by = {event: _settled_by(told, event) for event in events_of(house)}

    def unmarked(self):
        """The marks ahead of all steps."""
        return (None,) * len(self._numbers)

    def marked(self, standing, marks, step):
        """The marks behind the step, which is let at the standing with these marks."""
        found = list(marks)
        for number, fact in self._settled_by[step[:2]]:
            if found[number] is None:
                found[number] = self._mark(standing, step, fact)
        return tuple(found)

    def rest(self, marks):
        """True or False if the marks tell whether the claim is kept; otherwise a text for what they leave of it.

        What can still become of the claim depends on the text alone, and several marks can leave the same.
        """
        return _rest(self._form, self._numbers, marks)

    def _mark(self, standing, step, fact):
        """Whether the fact holds, which the step settles."""
        if fact[0] == "before":
            return fact[1] == step[:2]
        return is_so(self._house, self._book, standing, step, fact)


def _settled_by(facts, event):
    """The facts that the event settles, unless another event has settled them, each behind its number."""
    return [(number, fact) for number, fact in enumerate(facts)
            if event_about(fact) == event or (fact[0] == "before" and fact[1] == event)]


def _rest(form, numbers, marks):
    """What the marks leave of the form."""
    if form[0] == "fact":
        number = numbers[form[1]]
        return str(number) if marks[number] is None else marks[number]
    word, one, two = form
    one_rest, two_rest = _rest(one, numbers, marks), _rest(two, numbers, marks)
    # An `and` is broken as soon as a part of it is, and an `or` is kept as soon as a part of it is.
    decisive = word == "or"
    for rest, other in ((one_rest, two_rest), (two_rest, one_rest)):
        if rest == decisive:
            return decisive
        if rest == (not decisive):
            return other
    return f"({one_rest} {word} {two_rest})"
