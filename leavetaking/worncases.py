"""What cases with a book and cases without one have in common (points 26 and 68)."""

from leavetaking.choices import PLAIN
from leavetaking.common import frozen
from leavetaking.errors import BadFact, BadWearing
from leavetaking.facts import is_fact


class WornCase:
    """A house, a wearing and plain facts. It never changes."""

    def __init__(self, house, wearing, facts):
        self.house = house
        self.wearing = own_wearing(house, wearing)
        self._facts = _plain_facts(house, facts)
        self._worn = {guest: cloak for guest, cloak in zip(house.guests, self.wearing)}
        # Found once, because whoever looks for evenings asks for them over and over.
        self._rivals = {guest: house.better(guest, cloak) for guest, cloak in zip(house.guests, self.wearing)}
        self._bringers = {cloak: guest for guest, cloak in zip(house.guests, house.brings)}
        self._takers = {cloak: guest for guest, cloak in zip(house.guests, self.wearing)}
        self._about = _by_event(self._facts)

    def worn(self, guest):
        """The cloak in which the guest leaves."""
        return self._worn[guest]

    def rivals(self, guest):
        """The cloaks that the guest likes better than the one in which it leaves."""
        return self._rivals[guest]

    def bringer(self, cloak):
        """The guest that brings the cloak."""
        return self._bringers[cloak]

    def taker(self, cloak):
        """The guest that leaves in the cloak."""
        return self._takers[cloak]

    def about(self, event):
        """The facts that can bar the event, each behind its index, in order."""
        return self._about.get(event, ())


def own_wearing(house, wearing):
    """The wearing as a tuple; BadWearing if it does not consist of all cloaks, each once."""
    if sorted(wearing) != sorted(house.guests):
        raise BadWearing()
    return frozen(wearing)


def _plain_facts(house, facts):
    """The facts as a tuple; BadFact for the first one that is not a plain fact for the house."""
    facts = frozen(facts)
    for fact in facts:
        if not is_fact(house, fact) or fact[0] not in PLAIN:
            raise BadFact(fact)
    return facts


def _by_event(facts):
    """For each event that facts can bar these facts, each behind its index."""
    found = {}
    for index, fact in enumerate(facts):
        event = _barred_event(fact)
        found[event] = found.get(event, ()) + ((index, fact),)
    return found


def _barred_event(fact):
    """The event that the plain fact can bar."""
    if fact[0] == "before":
        return fact[2]
    if fact[0] == "chose":
        return ("out", fact[1])
    return fact[1]
