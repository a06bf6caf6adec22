"""What cases with a book and cases without one have in common (points 26 and 68)."""

from leavetaking.choices import PLAIN
from leavetaking.common import frozen
from leavetaking.errors import BadFact, BadWearing
from leavetaking.facts import event_about, is_fact


class WornCase:
    """A house, a wearing and plain facts. It never changes."""

    def __init__(self, house, wearing, facts):
        self.house = house
        self.wearing = own_wearing(house, wearing)
        self._facts = _plain_facts(house, facts)
        self._worn = {guest: cloak for guest, cloak in zip(house.guests, self.wearing)}
        # Found once, because whoever looks for evenings asks for them over and over.
        self._rivals = {guest: house.better(guest, cloak) for guest, cloak in zip(house.guests, self.wearing)}
        self._bringers = {cloak: guest for guest, cloak in zip(house.guests, house.brings)}
        self._takers = {cloak: guest for guest, cloak in zip(house.guests, self.wearing)}
        self._about = _by_event(self._facts)

    def worn(self, guest):
        """The cloak in which the guest leaves."""
        return self._worn[guest]

    def rivals(self, guest):
        """The cloaks that the guest likes better than the one in which it leaves."""
        return self._rivals[guest]

    def bringer(self, cloak):
        """The guest that brings the cloak."""
        return self._bringers[cloak]

    def taker(self, cloak):
        """The guest that leaves in the cloak."""
        return self._takers[cloak]

    def about(self, event):
        """The facts that can bar the event, each behind its index, in order."""
        return self._about.get(event, ())


def is_wearing(house, value):
    """Whether the sequence of strings consists of all cloaks of the house, each once."""
    return sorted(value) == sorted(house.guests)


def own_wearing(house, wearing):
    """The wearing as a tuple; BadWearing if it is not one of the house."""
    if not is_wearing(house, wearing):
        raise BadWearing()
    return frozen(wearing)


def _plain_facts(house, facts):
    """The facts as a tuple; BadFact for the first one that is not a plain fact for the house."""
    facts = frozen(facts)
    for fact in facts:
        if not is_fact(house, fact) or fact[0] not in PLAIN:
            raise BadFact(fact)
    return facts


def _by_event(facts):
    """For each event that facts can bar these facts, each behind its index: plain facts bar what they are about."""
    found = {}
    for index, fact in enumerate(facts):
        event = event_about(fact)
        found[event] = found.get(event, ()) + ((index, fact),)
    return found
