"""Points 15 to 17: what is a fact, and contraries."""

from leavetaking.facts import contrary, is_fact
from leavetaking.houses import House

from tests.helpers import ADA, BOB, CLEO, GUESTS, PromiseCase, all_facts, listed

HOUSE = House(GUESTS)
IN, OUT = ("in", ADA), ("out", BOB)

# One fact of each kind, with the names of what its items are.
GOOD = (
    (("wore", ADA, BOB), ("kind", "name", "name")),
    (("spared", CLEO, CLEO), ("kind", "name", "name")),
    (("before", IN, OUT), ("kind", "event", "event")),
    (("hung", IN, 1, (BOB, ADA)), ("kind", "event", "number", "names")),
    (("bare", OUT, 2, (CLEO, BOB, ADA)), ("kind", "event", "number", "names")),
    (("there", IN, 0, (CLEO, ADA)), ("kind", "event", "number", "names")),
    (("away", OUT, 3, (ADA,)), ("kind", "event", "number", "names")),
    (("after", IN, 1, (OUT, ("in", BOB))), ("kind", "event", "number", "events")),
    (("ahead", OUT, 2, (IN, ("out", ADA), ("in", BOB))), ("kind", "event", "number", "events")),
    (("chose", ADA, 2), ("kind", "name", "number")),
    (("settled", BOB, 0), ("kind", "name", "number")),
)

BAD_NAMES = ("zoe", "", "Ada", "ad", "adaa", None, True, False, 0, 1, (), (ADA,), IN)
BAD_ITEMS = {
    "kind": ("", "Wore", "worn", "hang", "in", None, True, 0, (), ("wore",)),
    "name": BAD_NAMES,
    "event": (
        ADA, "in", "", None, True, 0, 1, (), ("in",), (ADA,), ("in", ADA, ADA), ("out", ADA, ADA), ("In", ADA),
        ("on", ADA), ("", ADA), (ADA, "in"), ("in", "zoe"), ("out", ""), ("in", None), (None, ADA), ("out", 1),
        (0, ADA), (True, ADA), (("in",), ADA), ("in", (ADA,)), (IN,), (IN, IN), ("wore", ADA),
    ),
    "number": (True, False, None, -1, -10 ** 30, "", "1", (), (1,)),
    "names": tuple([(name,) for name in BAD_NAMES]) + (
        (ADA, "zoe"), ("zoe", ADA), (ADA, ADA), (ADA, BOB, ADA), (BOB, CLEO, CLEO), (ADA, BOB, CLEO, ADA),
        ((ADA, BOB),), (IN,), (ADA, IN), (ADA, None), (ADA, 0), ADA, "", None, True, False, 0, 2,
    ),
    "events": (
        (("in", CLEO), ("in", CLEO)), (("in", CLEO), ("out", CLEO), ("in", CLEO)), (ADA,), ("in",), ("in", ADA),
        ("in", CLEO), (("in", CLEO), ADA), (("in", "zoe"),), (("on", CLEO),), (("in",),), (("in", CLEO, CLEO),), ((),),
        (None,), (True,), (0,), ((("in", CLEO),),), (("in", CLEO), ("in", None)), ADA, "", "in", None, True, False,
        0, 2,
    ),
}


class WhatIsAFact(PromiseCase):
    def test_each_kind(self):
        for fact, _ in GOOD:
            self.assertIs(is_fact(HOUSE, fact), True, fact)

    def test_all_facts_of_a_house(self):
        for fact in all_facts(House([BOB, ADA])):
            self.assertIs(is_fact(House([BOB, ADA]), fact), True, fact)

    def test_each_item_spoilt(self):
        for fact, items in GOOD:
            for place, item in enumerate(items):
                for wrong in BAD_ITEMS[item]:
                    spoilt = fact[:place] + (wrong,) + fact[place + 1:]
                    self.assertIs(is_fact(HOUSE, spoilt), False, spoilt)

    def test_too_few_and_too_many_items(self):
        self.assertIs(is_fact(HOUSE, ()), False)
        for fact, _ in GOOD:
            for many in range(len(fact)):
                self.assertIs(is_fact(HOUSE, fact[:many]), False, fact[:many])
                without = fact[:many] + fact[many + 1:]
                self.assertIs(is_fact(HOUSE, without), False, without)
            for more in (ADA, 1, (), None, (ADA,), IN, fact[-1]):
                self.assertIs(is_fact(HOUSE, fact + (more,)), False, fact + (more,))
            self.assertIs(is_fact(HOUSE, (fact,)), False)

    def test_items_of_another_kind_of_fact(self):
        wrong = (
            ("wore", IN, OUT), ("before", ADA, BOB), ("chose", IN, 1), ("chose", ADA, BOB), ("wore", ADA, 1),
            ("hung", ADA, 1, (ADA,)), ("hung", IN, 1, (OUT,)), ("there", IN, 1, (OUT,)), ("after", IN, 1, (ADA,)),
            ("ahead", IN, 1, (ADA, BOB)), ("after", ADA, 1, (OUT,)), ("wore", IN, 1, (ADA,)), ("before", IN, 1, (ADA,)),
            ("before", IN, 1, (OUT,)), ("chose", IN, 1, (OUT,)), ("hung", 1, IN, (ADA,)), ("settled", 1, ADA),
        )
        for value in wrong:
            self.assertIs(is_fact(HOUSE, value), False, value)

    def test_a_string_is_no_tuple_of_its_characters(self):
        house = House(["a", "b"])
        for kind in ("hung", "bare", "there", "away"):
            self.assertIs(is_fact(house, (kind, ("in", "a"), 1, ("a", "b"))), True)
            self.assertIs(is_fact(house, (kind, ("in", "a"), 1, "ab")), False)
            self.assertIs(is_fact(house, (kind, ("in", "a"), 1, "a")), False)

    def test_the_two_events_of_before_differ(self):
        for event in (IN, OUT):
            self.assertIs(is_fact(HOUSE, ("before", event, event)), False)
        self.assertIs(is_fact(HOUSE, ("before", ("in", ADA), ("out", ADA))), True)
        self.assertIs(is_fact(HOUSE, ("before", ("out", ADA), ("in", ADA))), True)

    def test_the_event_is_not_among_the_events(self):
        for kind in ("after", "ahead"):
            self.assertIs(is_fact(HOUSE, (kind, IN, 1, (IN,))), False)
            self.assertIs(is_fact(HOUSE, (kind, IN, 1, (OUT, IN))), False)
            self.assertIs(is_fact(HOUSE, (kind, IN, 1, (("out", ADA), OUT))), True)

    def test_the_guest_of_the_event_may_be_among_cloaks_and_guests(self):
        for kind in ("hung", "bare", "there", "away"):
            self.assertIs(is_fact(HOUSE, (kind, IN, 1, (ADA,))), True)

    def test_empty_tuples(self):
        for kind in ("hung", "bare", "there", "away", "after", "ahead"):
            for count in (0, 1, 7):
                self.assertIs(is_fact(HOUSE, (kind, IN, count, ())), True)

    def test_numbers_of_any_size(self):
        for number in (0, 1, 40, 41, 10 ** 60):
            for kind in ("chose", "settled"):
                self.assertIs(is_fact(HOUSE, (kind, ADA, number)), True)
            for kind in ("hung", "bare", "there", "away", "after", "ahead"):
                self.assertIs(is_fact(HOUSE, (kind, OUT, number, ())), True)

    def test_names_of_this_house_only(self):
        house = House([ADA])
        for fact, _ in GOOD:
            self.assertIs(is_fact(house, fact), fact[0] == "chose", fact)


class Contraries(PromiseCase):
    def test_each_kind(self):
        lot, events = (BOB, ADA), (("in", CLEO), ("out", ADA))
        pairs = (
            (("wore", ADA, BOB), ("spared", ADA, BOB)),
            (("hung", OUT, 1, lot), ("bare", OUT, 1, lot)),
            (("there", IN, 2, lot), ("away", IN, 2, lot)),
            (("after", IN, 0, events), ("ahead", IN, 0, events)),
            (("chose", CLEO, 3), ("settled", CLEO, 3)),
            (("before", IN, OUT), ("before", OUT, IN)),
            (("hung", IN, 0, ()), ("bare", IN, 0, ())),
        )
        for one, two in pairs:
            self.same(contrary(one), two)
            self.same(contrary(two), one)
            self.same(contrary(listed(one)), two)
            self.same(contrary(listed(two)), one)

    def test_the_contrary_of_the_contrary_is_the_fact(self):
        for fact in all_facts(House([ADA, BOB])):
            self.same(contrary(contrary(fact)), fact)
            self.assertNotEqual(contrary(fact), fact)
            self.assertIs(is_fact(House([ADA, BOB]), contrary(fact)), True)
