"""Points 98 and 99: chains, and what is kept forward and backward."""

from itertools import permutations, product

from leavetaking.chains import backward, forward, is_chain, kept_nights
from leavetaking.errors import BadWearing
from leavetaking.evenings import wearing_of
from leavetaking.houses import House
from leavetaking.seasons import Season

from tests.helpers import ADA, BOB, CLEO, GUESTS, PromiseCase, crowd, fitting, listed, within
from tests.helpers_seasons import plain_chains, plain_rows, plain_story, some_seasons

HOUSE = House([ADA, BOB])
# On the first night ada leaves in the cloak of bob, and so it comes in it on the second one.
SEASON = Season(HOUSE, [((ADA, BOB), [("wore", ADA, BOB)]), ((ADA, BOB), []), ((BOB, ADA), [("wore", BOB, BOB)])])
OWN, OTHER = (ADA, BOB), (BOB, ADA)
FIRST = (("in", ADA), ("in", BOB), ("out", BOB, ADA), ("out", ADA, BOB))
# ada comes in the cloak of bob and leaves in it, and bob in the cloak of ada.
SECOND = (("in", ADA), ("out", ADA, BOB), ("in", BOB), ("out", BOB, ADA))
THIRD = (("in", BOB), ("in", ADA), ("out", ADA, ADA), ("out", BOB, BOB))
NOTHING = Season(HOUSE, [((ADA, BOB), []), ((ADA, BOB), [("wore", ADA, ADA), ("wore", BOB, ADA)]), ((ADA, BOB), [])])


def in_order(house, wearings):
    """The different wearings, ascending."""
    return tuple([wearing for wearing in permutations(house.guests) if wearing in wearings])


class Chains(PromiseCase):
    def test_chains(self):
        self.same(is_chain(SEASON, (FIRST, SECOND, THIRD)), True)
        self.same(is_chain(SEASON, listed((FIRST, SECOND, THIRD))), True)
        self.same(is_chain(Season(HOUSE, SEASON.nights[:1]), [FIRST]), True)

    def test_what_is_no_chain(self):
        # An evening that fits the story of its night only if the guests come in other cloaks.
        own = (("in", ADA), ("out", ADA, ADA), ("in", BOB), ("out", BOB, BOB))
        self.assertIn(own, fitting(plain_story(SEASON, 1, OWN)))
        self.same(is_chain(SEASON, (FIRST, own, THIRD)), False)
        self.same(is_chain(SEASON, (own, own, THIRD)), False)
        # The other order of the nights; an evening of another book; steps that are no evening.
        self.same(is_chain(SEASON, (SECOND, FIRST, THIRD)), False)
        self.same(is_chain(SEASON, (FIRST, SECOND, SECOND)), False)
        for steps in ((), FIRST[:3], (("in", "zoe"),), FIRST + FIRST, (("out", "", ADA),)):
            for at in range(3):
                evenings = [FIRST, SECOND, THIRD]
                evenings[at] = steps
                self.same(is_chain(SEASON, evenings), False)

    def test_all_rows_of_evenings_of_small_houses(self):
        yes = 0
        for season, _ in some_seasons(40, 2):
            chains = plain_chains(season)
            yes += len(chains) > 1
            for chain in chains[::11]:
                self.assertIs(is_chain(season, chain), True)
            # All evenings that fit a night, in whatever cloaks the guests come.
            lots = [[evening for brings in permutations(season.house.guests)
                     for evening in fitting(plain_story(season, night, brings))] for night in range(len(season))]
            for evenings in list(product(*lots))[::37]:
                self.assertIs(is_chain(season, evenings), tuple(evenings) in chains)
        self.assertGreater(yes, 20)


class Kept(PromiseCase):
    def test_forward(self):
        self.same(forward(SEASON), ((OTHER,), (OWN, OTHER), (OWN,)))
        self.same(forward(NOTHING), ((OWN, OTHER), (), ()))
        self.same(forward(Season(HOUSE, NOTHING.nights[:1])), ((OWN, OTHER),))

    def test_kept_nights(self):
        self.same(kept_nights(SEASON), ((OTHER,), (OWN, OTHER), (OWN,)))
        self.same(kept_nights(NOTHING), ((), (), ()))
        season = Season(HOUSE, [((ADA, BOB), []), ((ADA, BOB), [("before", ("out", ADA), ("in", BOB)), ("wore", ADA, BOB)])])
        # ada can leave in the cloak of bob ahead of bob only if it came in it.
        self.same(forward(season), ((OWN, OTHER), (OTHER,)))
        self.same(kept_nights(season), ((OTHER,), (OTHER,)))

    def test_backward(self):
        self.same(backward(SEASON, OWN), ((OTHER,), (OWN, OTHER), (OWN,)))
        self.same(backward(SEASON, list(OTHER)), ((), (), ()))
        for wearing in (OWN, OTHER):
            self.same(backward(NOTHING, wearing), ((), (), ()))
        two = Season(HOUSE, NOTHING.nights[:1] * 2)
        self.same(backward(two, OWN)[1:], ((OWN,),))
        self.same(backward(two, OTHER)[1:], ((OTHER,),))

    def test_wearings_that_are_not_of_the_house(self):
        for season in (SEASON, NOTHING):
            for wearing in ((), (ADA,), (ADA, ADA), (ADA, BOB, CLEO), (ADA, "zoe"), ("", "")):
                self.refused(BadWearing, backward, season, wearing)

    def test_all_rows_of_wearings(self):
        differing = 0
        # Who leaves early in a cloak on the last night must have come in it, or have been there with whoever did.
        told = [Season(House(GUESTS), [(GUESTS, []), ((BOB, CLEO, ADA), [("wore", guest, cloak), ("before", ("out", guest), ("in", ADA))])])
                for guest in GUESTS for cloak in GUESTS]
        for season in [season for season, _ in some_seasons(70)] + told:
            nights = range(len(season))
            rows = plain_rows(season)
            kept = tuple([in_order(season.house, [row[night] for row in rows]) for night in nights])
            self.same(kept_nights(season), kept)
            ahead = tuple([in_order(season.house, [row[night] for row in plain_rows(Season(season.house, season.nights[:night + 1]))])
                           for night in nights])
            self.same(forward(season), ahead)
            differing += 0 < len(rows) and kept != ahead
            for wearing in permutations(season.house.guests):
                due = tuple([in_order(season.house, [row[night] for row in rows if row[-1] == wearing]) for night in nights])
                self.same(backward(season, wearing), due)
        self.assertGreater(differing, 3)

    def test_wearings_of_all_chains(self):
        for season, _ in some_seasons(20, 2):
            chains = plain_chains(season)
            due = tuple([in_order(season.house, [wearing_of(season.house, chain[night]) for chain in chains])
                         for night in range(len(season))])
            self.same(kept_nights(season), due)

    def test_four_guests_and_nights(self):
        house = crowd(4)
        season = Season(house, [(house.guests[::-1], [("before", ("in", "g0"), ("out", "g3"))])] * 4)
        with within(60):
            self.same([len(wearings) for wearings in kept_nights(season)], [len(wearings) for wearings in forward(season)])
        self.same(len(Season(House(GUESTS), [(GUESTS, [])])), 1)
