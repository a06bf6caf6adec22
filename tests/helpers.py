"""What several test files need: sample houses, and the document's definitions written out plainly."""

import signal
import unittest
from contextlib import contextmanager
from itertools import combinations, permutations, product
from random import Random

from leavetaking.cases import Case
from leavetaking.choices import choices
from leavetaking.claims import Claim
from leavetaking.evenings import evenings, wearing_of
from leavetaking.houses import House
from leavetaking.opencases import OpenCase
from leavetaking.seen import Seen
from leavetaking.stories import Story
from leavetaking.torn import Torn

ADA, BOB, CLEO = "ada", "bob", "cleo"
GUESTS = (ADA, BOB, CLEO)

# An evening of TURNED with the book TURNED_BOOK, in which nobody brings or leaves in the own cloak.
TURNED = House(GUESTS, brings=(BOB, CLEO, ADA)).choosing(BOB, 2)
TURNED_BOOK = (BOB, ADA, CLEO)
TURNED_EVENING = (
    ("in", BOB),
    ("in", ADA),
    ("out", BOB, CLEO),
    ("in", CLEO),
    ("out", CLEO, ADA),
    ("out", ADA, BOB),
)
TURNED_WEARING = (BOB, CLEO, ADA)

PLAIN = ("before", "bare", "away", "after", "chose")


class PromiseCase(unittest.TestCase):
    """A test case with the two checks that most of the promises ask for."""

    def refused(self, error, call, *values, **named):
        """The call raises exactly this error, which is given back."""
        with self.assertRaises(error) as caught:
            call(*values, **named)
        self.assertIs(type(caught.exception), error)
        return caught.exception

    def same(self, found, due):
        """The found value equals the due one, in kind at every level: no list for a tuple, no 1 for True."""
        self.assertEqual(found, due)
        self.assertIs(type(found), type(due))
        if isinstance(due, (tuple, list)):
            for one, two in zip(found, due):
                self.same(one, two)


def listed(value):
    """The value with lists in the place of tuples, at every level."""
    if isinstance(value, (tuple, list)):
        return [listed(item) for item in value]
    return value


def crowd(count):
    """A house with this many guests: g0, g1, ..."""
    return House([f"g{number}" for number in range(count)])


def sample_houses():
    """Pairs of a house and a book, for tests that try everything."""
    three = House(GUESTS)
    return [
        (House([ADA]), (ADA,)),
        (House([ADA], pegs=1).choosing(ADA, 7), (ADA,)),
        (House([ADA, BOB]), (BOB, ADA)),
        (House([ADA, BOB], brings=[BOB, ADA], pegs=1), (ADA, BOB)),
        (House([ADA, BOB], worth=[4, 4]).choosing(BOB, 2), (ADA, BOB)),
        (three, (ADA, BOB, CLEO)),
        (three.with_pegs(2), (CLEO, ADA, BOB)),
        (TURNED, TURNED_BOOK),
        (TURNED.with_pegs(2), (ADA, CLEO, BOB)),
        (three.liking(ADA, [-5, 0, 10 ** 30]).liking(CLEO, [1, 1, 1]), (CLEO, BOB, ADA)),
        (three.choosing(ADA, 3).liking(BOB, [1, 2, 2]), (BOB, CLEO, ADA)),
        (House([CLEO, ADA, BOB], worth=[0, 0, -1], brings=[ADA, BOB, CLEO], pegs=1), (BOB, CLEO, ADA)),
    ]


def permuted_books(house):
    """All books of the house."""
    return list(permutations(house.guests))


def plain_events(house):
    """All events of the house."""
    return [(word, guest) for word in ("in", "out") for guest in house.guests]


def state_at(house, evening, place):
    """The events ahead of the step at the place, the guests in the room there and the cloaks that hang."""
    ahead = evening[:place]
    came = [step[1] for step in ahead if step[0] == "in"]
    left = [step[1] for step in ahead if step[0] == "out"]
    taken = [step[2] for step in ahead if step[0] == "out"]
    room = [guest for guest in house.guests if guest in came and guest not in left]
    hung = [house.brings[house.guests.index(guest)] for guest in came]
    return [step[:2] for step in ahead], room, [cloak for cloak in house.guests if cloak in hung and cloak not in taken]


def liked_better(house, guest, cloak, cloaks):
    """How many of the cloaks the guest likes better than this one."""
    taste = dict(zip(house.guests, house.taste(guest)))
    return len([other for other in cloaks if taste[other] > taste[cloak]])


def all_let(house, book, steps):
    """Whether each of the steps, of which each event has one, is let after those ahead of it."""
    for place, step in enumerate(steps):
        ahead, room, hung = state_at(house, steps, place)
        if step[0] == "in":
            come = len([event for event in ahead if event[0] == "in"])
            if book[come] != step[1] or (house.pegs is not None and len(hung) >= house.pegs):
                return False
        elif step[1] not in room or step[2] not in hung:
            return False
        elif liked_better(house, step[1], step[2], hung) >= house.depth(step[1]):
            return False
    return True


def step_rank(house, step):
    """What the order of steps goes by."""
    if step[0] == "in":
        return (0, 0, 0)
    return (1, house.guests.index(step[1]), house.guests.index(step[2]))


def plain_evenings(house, book):
    """All evenings, in order: every order of events and every wearing is tried."""
    found = []
    for events in permutations(plain_events(house)):
        if [guest for word, guest in events if word == "in"] != list(book):
            continue
        for worn in permutations(house.guests):
            cloaks = dict(zip(house.guests, worn))
            steps = tuple([event if event[0] == "in" else event + (cloaks[event[1]],) for event in events])
            if all_let(house, book, steps):
                found.append(steps)
    return sorted(found, key=lambda steps: [step_rank(house, step) for step in steps])


def says(house, evening, fact):
    """Whether the fact holds in the evening, read off the table of point 15."""
    places = {step[:2]: place for place, step in enumerate(evening)}
    cloaks = {step[1]: step[2] for step in evening if step[0] == "out"}
    kind = fact[0]
    if kind == "wore":
        return cloaks[fact[1]] == fact[2]
    if kind == "spared":
        return cloaks[fact[1]] != fact[2]
    if kind == "before":
        return places[fact[1]] < places[fact[2]]
    if kind in ("chose", "settled"):
        _, _, hung = state_at(house, evening, places["out", fact[1]])
        many = liked_better(house, fact[1], cloaks[fact[1]], hung)
        return many < fact[2] if kind == "chose" else many >= fact[2]
    ahead, room, hung = state_at(house, evening, places[fact[1]])
    there = {"hung": hung, "bare": hung, "there": room, "away": room, "after": ahead, "ahead": ahead}[kind]
    many = len([item for item in fact[3] if item in there])
    return many >= fact[2] if kind in ("hung", "there", "after") else many < fact[2]


def lots_from(items):
    """All lots of the items."""
    return [lot for many in range(len(items) + 1) for lot in combinations(items, many)]


def all_facts(house):
    """All facts for the house whose lots are in house order, or in the order of events."""
    guests = house.guests
    events = plain_events(house)
    facts = [(kind, one, two) for kind in ("wore", "spared") for one in guests for two in guests]
    facts += [("before", one, two) for one, two in permutations(events, 2)]
    facts += [(kind, one, many) for kind in ("chose", "settled") for one in guests for many in range(len(guests) + 2)]
    for event in events:
        for lot in lots_from(guests):
            for many in range(len(lot) + 2):
                facts += [(kind, event, many, lot) for kind in ("hung", "bare", "there", "away")]
        for lot in lots_from([other for other in events if other != event]):
            for many in range(len(lot) + 2):
                facts += [(kind, event, many, lot) for kind in ("after", "ahead")]
    return facts


def says_form(house, evening, form):
    """Whether the evening keeps the form of a claim, read off point 33."""
    if form[0] == "fact":
        return says(house, evening, form[1])
    one, two = says_form(house, evening, form[1]), says_form(house, evening, form[2])
    return one and two if form[0] == "and" else one or two


def fitting(story, claim=None):
    """All evenings that fit the story, and keep the claim if one is given: all evenings are tried."""
    return [evening for evening in evenings(story.house, story.book)
            if all(says(story.house, evening, fact) for fact in story.facts)
            and (claim is None or says_form(story.house, evening, claim.form))]


def fitting_case(case):
    """All evenings that fit the case."""
    story = Story(case.house, case.book, case.facts)
    return [evening for evening in fitting(story) if wearing_of(case.house, evening) == case.wearing]


def come_at(evening, guest):
    """How many guests have come when the guest leaves."""
    place = [step[:2] for step in evening].index(("out", guest))
    return len([step for step in evening[:place] if step[0] == "in"])


def plain_bars(case, come, gone, event):
    """All bars of the event in the situation, read off point 27."""
    came = case.book[:come]
    return bars_with(case, came, gone, event, case.book[come:come + 1] == event[1:])


def plain_open_bars(case, come, gone, event):
    """All bars of the event in the situation of a case without a book, read off point 68."""
    return bars_with(case, come, gone, event, event[1] not in come)


def bars_with(case, came, gone, event, may_come):
    """The same for both kinds of cases; the last argument tells whether a coming would have its turn."""
    house = case.house
    takers = dict(zip(case.wearing, house.guests))
    bringers = dict(zip(house.brings, house.guests))
    hung = [cloak for cloak in house.guests if bringers[cloak] in came and takers[cloak] not in gone]
    room = [guest for guest in house.guests if guest in came and guest not in gone]
    happened = [("in", guest) for guest in came] + [("out", guest) for guest in gone]
    word, guest = event
    taken = case.wearing[house.guests.index(guest)]
    better = liked_better(house, guest, taken, hung)
    found = []
    if word == "in":
        if not may_come:
            found.append(("turn",))
        if house.pegs is not None and len(hung) >= house.pegs:
            found.append(("pegs",))
    else:
        if guest not in room:
            found.append(("turn",))
        if bringers[taken] not in came:
            found.append(("cloak",))
        if better >= house.depth(guest):
            found.append(("depth",))
    for index, fact in enumerate(case.facts):
        if fact[0] == "before":
            barred = fact[2] == event and fact[1] not in happened
        elif fact[0] == "chose":
            barred = ("out", fact[1]) == event and better >= fact[2]
        elif fact[0] == "after":
            barred = fact[1] == event and len([other for other in fact[3] if other in happened]) < fact[2]
        else:
            so = hung if fact[0] == "bare" else room
            barred = fact[1] == event and len([item for item in fact[3] if item in so]) >= fact[2]
        if barred:
            found.append(("fact", index))
    return tuple(found)


def plain_hurry(case):
    """The steps of the hurried evening, its number of guests come, its levels and whether it is whole."""
    house, steps, come, levels = case.house, [], 0, {}
    while True:
        may = [guest for guest in house.guests if not plain_bars(case, come, list(levels), ("out", guest))]
        if may:
            levels[may[0]] = come
            steps.append(("out", may[0], case.wearing[house.guests.index(may[0])]))
        elif come < len(house) and not plain_bars(case, come, list(levels), ("in", case.book[come])):
            steps.append(("in", case.book[come]))
            come += 1
        else:
            whole = len(levels) == len(house)
            return (tuple(steps), come, tuple([levels.get(guest) for guest in house.guests]), whole)


def plain_closed(case, levels, come):
    """Whether the levels are closed up to `come` and bar the end, read off point 30."""
    guests = case.house.guests
    for k in range(come + 1):
        lot = [guest for guest, level in zip(guests, levels) if level is not None and level <= k]
        if any(guest not in lot and not plain_bars(case, k, lot, ("out", guest)) for guest in guests):
            return False
    if come < len(guests):
        return plain_bars(case, come, lot, ("in", case.book[come])) != ()
    return len(lot) < len(guests)


def plain_lots(form):
    """The lots of the form of a claim, read off point 34."""
    if form[0] == "fact":
        return [(form[1],)]
    one, two = plain_lots(form[1]), plain_lots(form[2])
    if form[0] == "or":
        return one + [lot for lot in two if lot not in one]
    found = []
    for first in one:
        for second in two:
            lot = first + tuple([fact for fact in second if fact not in first])
            if lot not in found:
                found.append(lot)
    return found


def plain_cases(story, claim=None):
    """The wearings and the facts of all cases, read off point 35: every wearing is tried."""
    found = []
    for wearing in permutations(story.house.guests):
        for lot in [()] if claim is None else plain_lots(claim.form):
            parts = [choices(story.house, wearing, fact) for fact in story.facts + lot]
            found += [(wearing, sum(way, ())) for way in product(*parts)]
    return found


def plain_facts(house):
    """All plain facts for the house whose lots are in house order, or in the order of events."""
    return [fact for fact in all_facts(house) if fact[0] in PLAIN]


def some_cases(count, houses=None):
    """So many cases for each of the sample houses, made of its wearings and plain facts in a fixed disorder."""
    draw = Random(40)
    for house, book in houses or sample_houses():
        facts = plain_facts(house)
        for _ in range(count):
            wearing = draw.sample(house.guests, len(house))
            yield Case(house, book, wearing, [draw.choice(facts) for _ in range(draw.choice((0, 1, 2, 2, 3, 5)))])


def some_stories(count, houses=None):
    """So many pairs of a story and a claim for each of the sample houses, made in a fixed disorder."""
    draw = Random(41)
    for house, book in houses or sample_houses():
        facts = all_facts(house)
        for _ in range(count):
            told = [draw.choice(facts) for _ in range(draw.choice((0, 1, 1, 2, 3)))]
            yield Story(house, book, told), some_claim(draw, facts)


def bounded_stories(count):
    """Those of them in which as many cases come about as the document bounds them."""
    for story, claim in some_stories(count):
        if sum([len(plain_cases(story, told)) for told in (None, claim, ~claim)]) <= 2000:
            yield story, claim


def some_claim(draw, facts):
    """A claim of up to three facts."""
    claims = [Claim.of(draw.choice(facts)) for _ in range(draw.choice((1, 1, 2, 3)))]
    while len(claims) > 1:
        one, two = claims[:2]
        claims = claims[2:] + [draw.choice((one & two, one | two, ~one | two, ~(one | ~two)))]
    return claims[0]


def many_facts(count, houses=None):
    """So many pairs of a story with up to 7 facts and a claim for each of the houses, with few cases each."""
    draw = Random(47)
    for house, book in houses or sample_houses():
        # Facts that are mostly so or mostly not so would seldom quarrel.
        facts = [fact for fact in all_facts(house) if len(fact) == 3 or len(fact[3]) <= 2]
        done = 0
        while done < count:
            told = [draw.choice(facts) for _ in range(draw.choice((2, 3, 4, 4, 5, 5, 6, 7)))]
            if draw.choice((True, False, False)):
                told.append(told[0])
            told = told[:7]
            ways = 1
            for fact in told:
                ways *= max([1] + [len(choices(house, wearing, fact)) for wearing in permutations(house.guests)])
            if ways <= 12:
                done += 1
                yield Story(house, book, told), some_claim(draw, facts)


def plain_word(story, claim):
    """The word on the claim, told by all evenings."""
    fit, keep = fitting(story), fitting(story, claim)
    if not fit:
        return "none"
    if not keep:
        return "never"
    return "sure" if fit == keep else "open"


def plain_least(many, is_one):
    """All lots of indexes for which it is so, and for no smaller lot in them, in the order of point 47."""
    found = [lot for lot in lots_from(range(many)) if is_one(lot)]
    return tuple([lot for lot in found if not any(set(less) < set(lot) for less in found)])


def plain_wearings(story, claim=None):
    """The wearings of all evenings that fit, ascending."""
    found = {wearing_of(story.house, evening) for evening in fitting(story, claim)}
    return [wearing for wearing in permutations(story.house.guests) if wearing in found]


def row_houses():
    """Pairs of a house and a book, for tests that try all rows: the sample houses and some with pegs and depths."""
    three = House(GUESTS)
    return sample_houses() + [
        (three.with_pegs(1), (BOB, CLEO, ADA)),
        (TURNED.with_pegs(1), (CLEO, ADA, BOB)),
        (three.liking(ADA, [1, 3, 2]).choosing(CLEO, 2).with_pegs(2), (CLEO, BOB, ADA)),
        (three.bringing([CLEO, ADA, BOB]).choosing(ADA, 10 ** 30), (ADA, BOB, CLEO)),
        (House(GUESTS, worth=[-7, -7, -7]), (BOB, ADA, CLEO)),
        (three.bringing([BOB, ADA, CLEO]).liking(BOB, [0, 7, 7]).choosing(BOB, 2), (CLEO, ADA, BOB)),
    ]


def row_order(house, row):
    """What the order of rows goes by."""
    return [(house.guests.index(guest), house.guests.index(cloak)) for guest, cloak in row]


def plain_rows(house):
    """All rows of the house, in order."""
    orders = list(permutations(house.guests))
    found = [tuple(zip(guests, cloaks)) for guests in orders for cloaks in orders]
    return sorted(found, key=lambda row: row_order(house, row))


def leavings_of(evening):
    """The row of the evening, read off its steps."""
    return tuple([(step[1], step[2]) for step in evening if step[0] == "out"])


def some_seen(count, many=4):
    """So much that was seen of up to so many guests, in a fixed disorder."""
    draw = Random(60)
    for _ in range(count):
        guests = ("g2", "g0", "g3", "g1", "g4")[:draw.randint(1, many)]
        taken = []
        for _ in range(draw.choice((0, 1, 2, 3, 5, 7))):
            hanging = [cloak for cloak in guests if draw.choice((True, True, False))] or [guests[0]]
            taken.append((draw.choice(guests), draw.choice(hanging), tuple(hanging)))
        ties = [tuple(draw.sample(guests, 2)) for _ in range(draw.choice((0, 0, 1, 2)) if len(guests) > 1 else 0)]
        yield Seen(guests, taken, [draw.choice((1, 1, 2, 2, 3)) for _ in guests], ties)


def plain_explains(order, taking, depth):
    """Whether the order explains the taking with the depth, read off point 60."""
    _, cloak, hanging = taking
    return len([other for other in hanging if order.index(other) < order.index(cloak)]) < depth


def plain_orders(seen):
    """All orders that fit what was seen, ascending: every order is tried."""
    depths = dict(zip(seen.guests, seen.depths))
    return [order for order in permutations(seen.guests)
            if all(plain_explains(order, taking, depths[taking[0]]) for taking in seen.takings)
            and all(order.index(better) < order.index(worse) for better, worse in seen.ties)]


def plain_held(seen, cloak, lot):
    """Whether a taking or a tie keeps the cloak from being the worst one of the lot, as in points 62 and 63."""
    depths = dict(zip(seen.guests, seen.depths))
    held = [len(set(hanging) & set(lot)) > depths[guest] for guest, taken, hanging in seen.takings if taken == cloak]
    return any(held) or any(better == cloak and worse in lot for better, worse in seen.ties)


def torn_samples(count, houses=None):
    """So many pairs of a torn story and a claim for each of the sample houses, in a fixed disorder."""
    draw = Random(67)
    for house, _ in houses or sample_houses():
        facts = [fact for fact in all_facts(house) if len(fact) == 3 or len(fact[3]) <= 2]
        for _ in range(count):
            told = [draw.choice(facts) for _ in range(draw.choice((0, 1, 1, 2, 2, 3)))]
            claim = some_claim(draw, facts)
            if sum([len(plain_cases(Story(house, house.guests, told), each)) for each in (None, claim, ~claim)]) <= 400:
                yield Torn(house, told), claim


def fitting_torn(torn, claim=None):
    """All evenings of all books that fit the torn story, and keep the claim if one is given."""
    return [evening for book in permutations(torn.house.guests)
            for evening in fitting(Story(torn.house, book, torn.facts), claim)]


def open_samples(count, houses=None):
    """So many open cases for each of the sample houses, made of its wearings and plain facts in a fixed disorder."""
    draw = Random(68)
    for house, _ in houses or sample_houses():
        facts = [fact for fact in plain_facts(house) if len(fact) == 3 or len(fact[3]) <= 2]
        for _ in range(count):
            wearing = draw.sample(house.guests, len(house))
            yield OpenCase(house, wearing, [draw.choice(facts) for _ in range(draw.choice((0, 1, 1, 2, 2, 3, 5)))])


def fitting_open(case):
    """All evenings of all books that fit the open case."""
    return [evening for evening in fitting_torn(Torn(case.house, case.facts))
            if wearing_of(case.house, evening) == case.wearing]


@contextmanager
def within(seconds):
    """The block fails if it takes longer: for promises that are broken by going through too much."""
    def late(*_):
        raise AssertionError(f"took longer than {seconds} seconds")
    before = signal.signal(signal.SIGALRM, late)
    signal.alarm(seconds)
    try:
        yield
    finally:
        signal.alarm(0)
        signal.signal(signal.SIGALRM, before)
