"""What several test files need: sample houses, and the document's definitions written out plainly."""

import unittest
from itertools import combinations, permutations

from leavetaking.houses import House

ADA, BOB, CLEO = "ada", "bob", "cleo"
GUESTS = (ADA, BOB, CLEO)

# An evening of TURNED with the book TURNED_BOOK, in which nobody brings or leaves in the own cloak.
TURNED = House(GUESTS, brings=(BOB, CLEO, ADA)).choosing(BOB, 2)
TURNED_BOOK = (BOB, ADA, CLEO)
TURNED_EVENING = (
    ("in", BOB),
    ("in", ADA),
    ("out", BOB, CLEO),
    ("in", CLEO),
    ("out", CLEO, ADA),
    ("out", ADA, BOB),
)
TURNED_WEARING = (BOB, CLEO, ADA)


class PromiseCase(unittest.TestCase):
    """A test case with the two checks that most of the promises ask for."""

    def refused(self, error, call, *values, **named):
        """The call raises exactly this error, which is given back."""
        with self.assertRaises(error) as caught:
            call(*values, **named)
        self.assertIs(type(caught.exception), error)
        return caught.exception

    def same(self, found, due):
        """The found value equals the due one, in kind at every level: no list for a tuple, no 1 for True."""
        self.assertEqual(found, due)
        self.assertIs(type(found), type(due))
        if isinstance(due, (tuple, list)):
            for one, two in zip(found, due):
                self.same(one, two)


def listed(value):
    """The value with lists in the place of tuples, at every level."""
    if isinstance(value, (tuple, list)):
        return [listed(item) for item in value]
    return value


def crowd(count):
    """A house with this many guests: g0, g1, ..."""
    return House([f"g{number}" for number in range(count)])


def sample_houses():
    """Pairs of a house and a book, for tests that try everything."""
    three = House(GUESTS)
    return [
        (House([ADA]), (ADA,)),
        (House([ADA], pegs=1).choosing(ADA, 7), (ADA,)),
        (House([ADA, BOB]), (BOB, ADA)),
        (House([ADA, BOB], brings=[BOB, ADA], pegs=1), (ADA, BOB)),
        (House([ADA, BOB], worth=[4, 4]).choosing(BOB, 2), (ADA, BOB)),
        (three, (ADA, BOB, CLEO)),
        (three.with_pegs(2), (CLEO, ADA, BOB)),
        (TURNED, TURNED_BOOK),
        (TURNED.with_pegs(2), (ADA, CLEO, BOB)),
        (three.liking(ADA, [-5, 0, 10 ** 30]).liking(CLEO, [1, 1, 1]), (CLEO, BOB, ADA)),
        (three.choosing(ADA, 3).liking(BOB, [1, 2, 2]), (BOB, CLEO, ADA)),
        (House([CLEO, ADA, BOB], worth=[0, 0, -1], brings=[ADA, BOB, CLEO], pegs=1), (BOB, CLEO, ADA)),
    ]


def permuted_books(house):
    """All books of the house."""
    return list(permutations(house.guests))


def plain_events(house):
    """All events of the house."""
    return [(word, guest) for word in ("in", "out") for guest in house.guests]


def state_at(house, evening, place):
    """The events ahead of the step at the place, the guests in the room there and the cloaks that hang."""
    ahead = evening[:place]
    came = [step[1] for step in ahead if step[0] == "in"]
    left = [step[1] for step in ahead if step[0] == "out"]
    taken = [step[2] for step in ahead if step[0] == "out"]
    room = [guest for guest in house.guests if guest in came and guest not in left]
    hung = [house.brings[house.guests.index(guest)] for guest in came]
    return [step[:2] for step in ahead], room, [cloak for cloak in house.guests if cloak in hung and cloak not in taken]


def liked_better(house, guest, cloak, cloaks):
    """How many of the cloaks the guest likes better than this one."""
    taste = dict(zip(house.guests, house.taste(guest)))
    return len([other for other in cloaks if taste[other] > taste[cloak]])


def all_let(house, book, steps):
    """Whether each of the steps, of which each event has one, is let after those ahead of it."""
    for place, step in enumerate(steps):
        ahead, room, hung = state_at(house, steps, place)
        if step[0] == "in":
            come = len([event for event in ahead if event[0] == "in"])
            if book[come] != step[1] or (house.pegs is not None and len(hung) >= house.pegs):
                return False
        elif step[1] not in room or step[2] not in hung:
            return False
        elif liked_better(house, step[1], step[2], hung) >= house.depth(step[1]):
            return False
    return True


def step_rank(house, step):
    """What the order of steps goes by."""
    if step[0] == "in":
        return (0, 0, 0)
    return (1, house.guests.index(step[1]), house.guests.index(step[2]))


def plain_evenings(house, book):
    """All evenings, in order: every order of events and every wearing is tried."""
    found = []
    for events in permutations(plain_events(house)):
        if [guest for word, guest in events if word == "in"] != list(book):
            continue
        for worn in permutations(house.guests):
            cloaks = dict(zip(house.guests, worn))
            steps = tuple([event if event[0] == "in" else event + (cloaks[event[1]],) for event in events])
            if all_let(house, book, steps):
                found.append(steps)
    return sorted(found, key=lambda steps: [step_rank(house, step) for step in steps])


def says(house, evening, fact):
    """Whether the fact holds in the evening, read off the table of point 15."""
    places = {step[:2]: place for place, step in enumerate(evening)}
    cloaks = {step[1]: step[2] for step in evening if step[0] == "out"}
    kind = fact[0]
    if kind == "wore":
        return cloaks[fact[1]] == fact[2]
    if kind == "spared":
        return cloaks[fact[1]] != fact[2]
    if kind == "before":
        return places[fact[1]] < places[fact[2]]
    if kind in ("chose", "settled"):
        _, _, hung = state_at(house, evening, places["out", fact[1]])
        many = liked_better(house, fact[1], cloaks[fact[1]], hung)
        return many < fact[2] if kind == "chose" else many >= fact[2]
    ahead, room, hung = state_at(house, evening, places[fact[1]])
    there = {"hung": hung, "bare": hung, "there": room, "away": room, "after": ahead, "ahead": ahead}[kind]
    many = len([item for item in fact[3] if item in there])
    return many >= fact[2] if kind in ("hung", "there", "after") else many < fact[2]


def lots_from(items):
    """All lots of the items."""
    return [lot for many in range(len(items) + 1) for lot in combinations(items, many)]


def all_facts(house):
    """All facts for the house whose lots are in house order, or in the order of events."""
    guests = house.guests
    events = plain_events(house)
    facts = [(kind, one, two) for kind in ("wore", "spared") for one in guests for two in guests]
    facts += [("before", one, two) for one, two in permutations(events, 2)]
    facts += [(kind, one, many) for kind in ("chose", "settled") for one in guests for many in range(len(guests) + 2)]
    for event in events:
        for lot in lots_from(guests):
            for many in range(len(lot) + 2):
                facts += [(kind, event, many, lot) for kind in ("hung", "bare", "there", "away")]
        for lot in lots_from([other for other in events if other != event]):
            for many in range(len(lot) + 2):
                facts += [(kind, event, many, lot) for kind in ("after", "ahead")]
    return facts
