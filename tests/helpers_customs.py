"""What tests of customs need: sample customs, and the document's definitions written out plainly."""

from random import Random

from leavetaking.customs import Custom
from leavetaking.houses import House
from leavetaking.watches import Watch

from tests.helpers import ADA, BOB, CLEO

TWO = House([ADA, BOB], pegs=2)
# ada leaves in the best cloak, bob in whatever there is; in each of the states 0 and 1 one of them may come.
DEEP = TWO.choosing(BOB, 3)
TURNS = Custom(DEEP, [(0, ADA, 1), (1, BOB, 0)], [0])


def plain_moves(custom, condition):
    """All moves that are let at the condition, each with the condition after it, read off point 89."""
    state, hanging, room = condition
    house = custom.house
    kinds = house.guests
    hung, there = dict(zip(kinds, hanging)), dict(zip(kinds, room))
    found = []
    for kind in kinds:
        for after in range(10):
            if (state, kind, after) in custom.arrows and sum(hanging) < house.pegs:
                cloak = house.brings[kinds.index(kind)]
                found.append((("in", kind, after), (after, plain_more(kinds, hung, cloak, 1), plain_more(kinds, there, kind, 1))))
    for kind in kinds:
        worth = dict(zip(kinds, house.taste(kind)))
        for cloak in kinds:
            better = sum([hung[other] for other in kinds if worth[other] > worth[cloak]])
            if there[kind] > 0 and hung[cloak] > 0 and better < house.depth(kind):
                found.append((("out", kind, cloak), (state, plain_more(kinds, hung, cloak, -1), plain_more(kinds, there, kind, -1))))
    return found


def plain_more(kinds, counts, kind, change):
    """The counts in house order, with a change for one kind."""
    return tuple([counts[other] + (change if other == kind else 0) for other in kinds])


def plain_ends(custom, condition):
    """Whether the condition ends."""
    return condition[0] in custom.ends and sum(condition[2]) == 0


def plain_reached(custom):
    """All conditions that come about, in the order in which they are found."""
    none = (0,) * len(custom.house)
    found = [(0, none, none)]
    for condition in found:
        found.extend([after for after in dict.fromkeys(after for _, after in plain_moves(custom, condition))
                      if after not in found])
    return found


def plain_live(custom):
    """Those of them from which one that ends is reached."""
    conditions = plain_reached(custom)
    alive = [condition for condition in conditions if plain_ends(custom, condition)]
    while True:
        more = [condition for condition in conditions if condition not in alive
                and any(after in alive for _, after in plain_moves(custom, condition))]
        if not more:
            return [condition for condition in conditions if condition in alive]
        alive += more


def long_evenings(custom, most):
    """All long evenings of at most so many moves, in order."""
    layer, found = [((), plain_reached(custom)[0])], []
    for _ in range(most + 1):
        found += [moves for moves, condition in layer if plain_ends(custom, condition)]
        layer = [(moves + (move,), after) for moves, condition in layer for move, after in plain_moves(custom, condition)]
    return found


def event_of(move):
    """The event that a watch sees of the move."""
    return (move[0], move[1]) if move[0] == "in" else tuple(move)


def plain_state(watch, moves):
    """The state of the watch behind the moves."""
    state = 0
    for move in moves:
        for before, event, after in watch.rules:
            if (before, event) == (state, event_of(move)):
                state = after
                break
    return state


def some_houses(draw):
    """A house of up to three kinds with few pegs."""
    kinds = draw.sample((ADA, BOB, CLEO), draw.choice((1, 2, 2, 2, 3)))
    house = House(kinds, brings=draw.sample(kinds, len(kinds)), pegs=draw.choice((1, 2, 2, 2 if len(kinds) == 3 else 3)))
    for kind in kinds:
        house = house.liking(kind, [draw.choice((0, 1, 2)) for _ in kinds]).choosing(kind, draw.choice((1, 1, 2, 3)))
    return house


def some_arrows(draw, house):
    """Arrows of a custom of the house with few states."""
    states = draw.choice(((0,), (0, 1), (0, 1), (0, 1, 2)))
    return [(draw.choice(states), draw.choice(house.guests), draw.choice(states)) for _ in range(draw.choice((0, 1, 2, 3, 4)))]


def some_customs(count):
    """So many customs in a fixed disorder; some have no long evening."""
    draw = Random(88)
    for _ in range(count):
        house = some_houses(draw)
        yield Custom(house, some_arrows(draw, house), draw.choice(([0], [0], [1], [0, 1], [2], [])))


def some_watch(draw, house):
    """A watch of events of the house, or one of the watches that have names."""
    events = [("in", kind) for kind in house] + [("out", kind, cloak) for kind in house for cloak in house]
    sort = draw.choice(("never", "follows", "rules", "rules"))
    if sort == "never":
        return Watch.never(draw.choice(events))
    if sort == "follows":
        return Watch.follows(*draw.sample(events, 2))
    rules = {(draw.choice((0, 1, 2)), draw.choice(events)): draw.choice((0, 1, 2)) for _ in range(4)}
    return Watch([(state, event, after) for (state, event), after in rules.items()], draw.choice(([0], [1], [0, 2])))
