"""Facts as choices of lots of plain facts, if the wearing is known (point 18)."""

from leavetaking.common import frozen, picks

PLAIN = ("before", "bare", "away", "after", "chose")


def choices(house, wearing, fact):
    """The lots of plain facts of which the fact is a choice."""
    fact = frozen(fact)
    kind = fact[0]
    worn = {guest: cloak for guest, cloak in zip(house.guests, frozen(wearing))}
    if kind in PLAIN:
        return ((fact,),)
    if kind in ("wore", "spared"):
        wore = worn[fact[1]] == fact[2]
        return ((),) if wore == (kind == "wore") else ()
    if kind == "hung":
        return _hung_lots(house, worn, fact)
    if kind == "there":
        _, event, count, guests = fact
        spells = [_spell(("in", guest), event, ("out", guest)) for guest in guests if event != ("in", guest)]
        return _lots(spells, count)
    if kind == "ahead":
        _, event, count, events = fact
        # With fewer than `count` ahead of the event, so many are behind it.
        return _lots([(("before", event, other),) for other in events], len(events) - count + 1)
    _, guest, depth = fact
    return _hung_lots(house, worn, ("hung", ("out", guest), depth, house.better(guest, worn[guest])))


def _hung_lots(house, worn, fact):
    """The lots of a fact of the kind `hung`."""
    _, event, count, cloaks = fact
    takers = {cloak: guest for guest, cloak in worn.items()}
    spells = []
    for cloak in cloaks:
        coming = ("in", house.bringer(cloak))
        if event != coming:
            spells.append(_spell(coming, event, ("out", takers[cloak])))
    return _lots(spells, count)


def _spell(coming, event, leaving):
    """That the event happened after the coming and not after the leaving."""
    if event == leaving:
        return (("before", coming, event),)
    return (("before", coming, event), ("before", event, leaving))


def _lots(spells, count):
    """For each choice of so many of the spells the lot of all their facts; of less than 1, the empty lot."""
    return tuple([tuple([fact for at in pick for fact in spells[at]]) for pick in picks(len(spells), count)])
