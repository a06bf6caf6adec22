"""Point 18: facts as choices of lots of plain facts."""

from itertools import combinations, permutations

from leavetaking.choices import choices
from leavetaking.evenings import wearing_of
from leavetaking.houses import House
from leavetaking.meanings import holds

from tests.helpers import (
    ADA, BOB, CLEO, GUESTS, PromiseCase, TURNED, TURNED_WEARING, all_facts, crowd, listed, plain_evenings,
    sample_houses,
)

PLAIN = ("before", "bare", "away", "after", "chose")
IN_ADA, IN_BOB, IN_CLEO = [("in", guest) for guest in GUESTS]
OUT_ADA, OUT_BOB, OUT_CLEO = [("out", guest) for guest in GUESTS]


def spell(begin, event, end):
    """The facts that the event lies behind the begin, and ahead of the end, unless it is the end."""
    if event == end:
        return (("before", begin, event),)
    return (("before", begin, event), ("before", event, end))


def plain_choices(house, wearing, fact):
    """The lots, written down as point 18 tells them."""
    kind, guests = fact[0], list(house.guests)
    if kind in PLAIN:
        return ((fact,),)
    if kind in ("wore", "spared"):
        agrees = (wearing[guests.index(fact[1])] == fact[2]) == (kind == "wore")
        return ((),) if agrees else ()
    if kind == "settled":
        taken = wearing[guests.index(fact[1])]
        return plain_choices(house, wearing, ("hung", ("out", fact[1]), fact[2], house.better(fact[1], taken)))
    event, count, items = fact[1:]
    if kind == "ahead":
        rest = len(items) - count + 1
        if rest <= 0:
            return ((),)
        return tuple([tuple([("before", event, other) for other in lot]) for lot in combinations(items, rest)])
    lots = []
    for lot in combinations(items, count):
        if kind == "hung":
            begins = [("in", guests[house.brings.index(cloak)]) for cloak in lot]
            ends = [("out", guests[wearing.index(cloak)]) for cloak in lot]
        else:
            begins, ends = [("in", guest) for guest in lot], [("out", guest) for guest in lot]
        if event not in begins:
            lots.append(tuple([told for begin, end in zip(begins, ends) for told in spell(begin, event, end)]))
    return tuple(lots)


class TurnedHouse(PromiseCase):
    """TURNED: ada brings bob's cloak, bob cleo's, cleo ada's, and each of them left in the one that it brought."""

    def check(self, fact, due, wearing=TURNED_WEARING):
        self.same(choices(TURNED, wearing, fact), due)
        self.same(choices(TURNED, listed(wearing), listed(fact)), due)

    def test_plain_facts_are_one_lot(self):
        facts = (
            ("before", OUT_ADA, IN_CLEO),
            ("bare", IN_ADA, 1, (BOB, ADA)),
            ("away", OUT_ADA, 2, (BOB, ADA)),
            ("after", IN_ADA, 1, (OUT_BOB, IN_CLEO)),
            ("chose", ADA, 0),
            ("bare", IN_ADA, 0, ()),
        )
        for fact in facts:
            self.check(fact, ((fact,),))

    def test_wore_and_spared(self):
        self.check(("wore", ADA, BOB), ((),))
        self.check(("spared", ADA, BOB), ())
        self.check(("wore", ADA, ADA), ())
        self.check(("spared", ADA, ADA), ((),))
        self.check(("wore", BOB, ADA), ((),), (CLEO, ADA, BOB))

    def test_hung(self):
        one = (("before", IN_ADA, OUT_BOB), ("before", OUT_BOB, OUT_ADA))
        two = (("before", IN_CLEO, OUT_BOB), ("before", OUT_BOB, OUT_CLEO))
        self.check(("hung", OUT_BOB, 1, (BOB, ADA)), (one, two))
        self.check(("hung", OUT_BOB, 1, (ADA, BOB)), (two, one))
        self.check(("hung", OUT_BOB, 2, (BOB, ADA)), (one + two,))
        self.check(("hung", OUT_BOB, 2, (ADA, BOB)), (two + one,))
        self.check(("hung", OUT_BOB, 0, (BOB, ADA)), ((),))
        self.check(("hung", OUT_BOB, 3, (BOB, ADA)), ())
        self.check(("hung", OUT_BOB, 40, (BOB, ADA)), ())

    def test_hung_with_the_bringer_and_the_taker_told_apart(self):
        self.check(("hung", IN_BOB, 1, (BOB,)), ((("before", IN_ADA, IN_BOB), ("before", IN_BOB, OUT_CLEO)),),
                   (CLEO, ADA, BOB))

    def test_hung_at_the_leaving_of_the_taker(self):
        self.check(("hung", OUT_BOB, 1, (CLEO,)), ((("before", IN_BOB, OUT_BOB),),))
        self.check(("hung", OUT_BOB, 1, (CLEO,)), ((("before", IN_BOB, OUT_BOB),),), (ADA, CLEO, BOB))
        self.check(("hung", OUT_BOB, 1, (ADA,)), ((("before", IN_CLEO, OUT_BOB),),), (CLEO, ADA, BOB))
        self.check(("hung", OUT_BOB, 2, (CLEO, ADA)), ((
            ("before", IN_BOB, OUT_BOB), ("before", IN_CLEO, OUT_BOB), ("before", OUT_BOB, OUT_CLEO),
        ),))

    def test_hung_at_the_coming_of_the_bringer(self):
        ada = (("before", IN_CLEO, IN_BOB), ("before", IN_BOB, OUT_CLEO))
        bob = (("before", IN_ADA, IN_BOB), ("before", IN_BOB, OUT_ADA))
        self.check(("hung", IN_BOB, 1, (CLEO,)), ())
        self.check(("hung", IN_BOB, 0, (CLEO,)), ((),))
        self.check(("hung", IN_BOB, 1, GUESTS), (ada, bob))
        self.check(("hung", IN_BOB, 2, GUESTS), (ada + bob,))
        self.check(("hung", IN_BOB, 2, (CLEO, BOB, ADA)), (bob + ada,))
        self.check(("hung", IN_BOB, 3, GUESTS), ())

    def test_there(self):
        ada = (("before", IN_ADA, OUT_BOB), ("before", OUT_BOB, OUT_ADA))
        bob = (("before", IN_BOB, OUT_BOB),)
        cleo = (("before", IN_CLEO, OUT_BOB), ("before", OUT_BOB, OUT_CLEO))
        self.check(("there", OUT_BOB, 1, (CLEO, BOB, ADA)), (cleo, bob, ada))
        self.check(("there", OUT_BOB, 2, (CLEO, BOB, ADA)), (cleo + bob, cleo + ada, bob + ada))
        self.check(("there", OUT_BOB, 3, (CLEO, BOB, ADA)), (cleo + bob + ada,))
        self.check(("there", OUT_BOB, 4, (CLEO, BOB, ADA)), ())
        self.check(("there", OUT_BOB, 0, (CLEO, BOB, ADA)), ((),))

    def test_there_at_the_coming_of_a_chosen_guest(self):
        ada = (("before", IN_ADA, IN_BOB), ("before", IN_BOB, OUT_ADA))
        cleo = (("before", IN_CLEO, IN_BOB), ("before", IN_BOB, OUT_CLEO))
        self.check(("there", IN_BOB, 1, GUESTS), (ada, cleo))
        self.check(("there", IN_BOB, 2, GUESTS), (ada + cleo,))
        self.check(("there", IN_BOB, 3, GUESTS), ())
        self.check(("there", IN_BOB, 1, (BOB,)), ())
        self.check(("there", IN_BOB, 0, (BOB,)), ((),))

    def test_ahead(self):
        one, two, three = [("before", OUT_BOB, event) for event in (OUT_CLEO, IN_ADA, IN_BOB)]
        events = (OUT_CLEO, IN_ADA, IN_BOB)
        self.check(("ahead", OUT_BOB, 3, events), ((one,), (two,), (three,)))
        self.check(("ahead", OUT_BOB, 2, events), ((one, two), (one, three), (two, three)))
        self.check(("ahead", OUT_BOB, 1, events), ((one, two, three),))
        self.check(("ahead", OUT_BOB, 0, events), ())
        self.check(("ahead", OUT_BOB, 4, events), ((),))
        self.check(("ahead", OUT_BOB, 40, events), ((),))
        self.check(("ahead", OUT_BOB, 0, ()), ())
        self.check(("ahead", OUT_BOB, 1, ()), ((),))

    def test_settled(self):
        # In the tastes of all, ada's cloak is the best and cleo's the worst; bob left in cleo's.
        ada = (("before", IN_CLEO, OUT_BOB), ("before", OUT_BOB, OUT_CLEO))
        bob = (("before", IN_ADA, OUT_BOB), ("before", OUT_BOB, OUT_ADA))
        self.check(("settled", BOB, 0), ((),))
        self.check(("settled", BOB, 1), (ada, bob))
        self.check(("settled", BOB, 2), (ada + bob,))
        self.check(("settled", BOB, 3), ())
        self.check(("settled", CLEO, 0), ((),))
        self.check(("settled", CLEO, 1), ())
        self.check(("settled", ADA, 1), ((("before", IN_CLEO, OUT_ADA), ("before", OUT_ADA, OUT_CLEO)),))

    def test_settled_goes_by_the_taste_of_the_guest(self):
        house = TURNED.liking(BOB, [5, 1, 5])
        self.same(choices(house, TURNED_WEARING, ("settled", BOB, 1)), ())
        self.same(choices(house, (CLEO, BOB, ADA), ("settled", BOB, 2)), ((
            ("before", IN_CLEO, OUT_BOB), ("before", OUT_BOB, OUT_CLEO), ("before", IN_BOB, OUT_BOB),
            ("before", OUT_BOB, OUT_ADA),
        ),))


class AllFacts(PromiseCase):
    def test_every_fact_and_every_wearing(self):
        houses = (TURNED.liking(BOB, [1, 2, 2]), House(GUESTS), House([ADA, BOB], brings=[BOB, ADA]), House([ADA]))
        for house in houses:
            for wearing in permutations(house.guests):
                for fact in all_facts(house):
                    self.assertEqual(choices(house, wearing, fact), plain_choices(house, wearing, fact))

    def test_lots_of_a_great_house(self):
        house = crowd(30)
        wearing = house.guests[1:] + house.guests[:1]
        leavings = tuple([("out", guest) for guest in house.guests])
        for fact in (("hung", ("in", "g3"), 2, house.guests[::-1]), ("there", ("out", "g7"), 29, house.guests),
                     ("settled", "g5", 2), ("ahead", ("in", "g0"), 30, leavings)):
            self.assertEqual(choices(house, wearing, fact), plain_choices(house, wearing, fact))

    def test_the_fact_holds_if_and_only_if_all_of_some_lot_hold(self):
        for number, (house, book) in enumerate(sample_houses()):
            found = plain_evenings(house, book)
            if len(house) == 3:
                found = [found[(5 * number) % len(found)]]
            for evening in found:
                wearing = wearing_of(house, evening)
                for fact in all_facts(house):
                    lots = choices(house, wearing, fact)
                    some = any(all(holds(house, evening, told) for told in lot) for lot in lots)
                    self.assertIs(holds(house, evening, fact), some, (evening, fact))
                    self.assertEqual([told for lot in lots for told in lot if told[0] not in PLAIN], [])
