"""Point 73: possible books and sure comings."""

from itertools import permutations

from leavetaking.claims import Claim
from leavetaking.errors import BadFact, NoEvening
from leavetaking.evenings import book_of
from leavetaking.houses import House
from leavetaking.openverdicts import open_verdict
from leavetaking.torn import Torn, book_story
from leavetaking.tornbooks import possible_books, sure_comings
from leavetaking.verdicts import verdict

from tests.helpers import (
    ADA, BOB, CLEO, GUESTS, PromiseCase, crowd, fitting_torn, permuted_books, sample_houses, torn_samples, within,
)

IN_ADA, IN_BOB, IN_CLEO = [("in", guest) for guest in GUESTS]
OUT_ADA, OUT_BOB, OUT_CLEO = [("out", guest) for guest in GUESTS]
FREE = Torn(House([CLEO, ADA, BOB]))
NONE = (FREE.told(("chose", ADA, 0)), FREE.told(("wore", ADA, BOB)).told(("wore", BOB, BOB)),
        FREE.told(("before", IN_ADA, IN_BOB)).told(("before", IN_BOB, IN_ADA)))
STRANGE = ("chose", "zoe", 1)
STRANGERS = Claim.of(("wore", ADA, BOB)) & Claim.of(STRANGE)


def plain_books(torn, claim=None):
    """The books of all evenings that fit, ascending."""
    found = {book_of(evening) for evening in fitting_torn(torn, claim)}
    return [book for book in permuted_books(torn.house) if book in found]


class Books(PromiseCase):
    def test_ascending(self):
        self.same(list(possible_books(FREE)), list(permutations((CLEO, ADA, BOB))))
        told = FREE.told(("before", IN_BOB, IN_CLEO))
        self.same(list(possible_books(told)), [(ADA, BOB, CLEO), (BOB, CLEO, ADA), (BOB, ADA, CLEO)])
        self.same(list(possible_books(told, Claim.of(("before", OUT_ADA, IN_BOB)))), [(ADA, BOB, CLEO)])
        # Ada can take its own cloak only if cleo comes later or its cloak is taken.
        told = FREE.told(("wore", ADA, ADA)).told(("before", OUT_ADA, OUT_CLEO))
        self.same(list(possible_books(told)), plain_books(told))

    def test_no_book(self):
        for torn in NONE:
            self.same(list(possible_books(torn)), [])
            self.same(list(possible_books(torn, Claim.of(("chose", ADA, 1)))), [])
        self.same(list(possible_books(FREE, Claim.of(("chose", ADA, 0)))), [])

    def test_all_books_of_small_houses(self):
        for house, _ in sample_houses():
            self.same(list(possible_books(Torn(house))), permuted_books(house))
        counts = set()
        for torn, claim in torn_samples(10):
            for told in (None, claim, ~claim):
                due = plain_books(torn, told)
                self.same(list(possible_books(torn, told)), due)
                counts.add(len(due))
        self.assertGreater(len(counts), 5)

    def test_the_verdicts_for_all_possible_books(self):
        for torn, claim in torn_samples(6):
            words = {verdict(book_story(torn, book), claim).word for book in possible_books(torn)}
            word = open_verdict(torn, claim).word
            self.assertNotIn("none", words)
            self.assertIs(word == "sure", words == {"sure"})
            self.assertIs(word == "never", words == {"never"})
            self.assertIs(word == "none", not words)

    def test_five_guests(self):
        house = crowd(5)
        with within(60):
            self.same(list(possible_books(Torn(house))), list(permutations(house.guests)))
            torn = Torn(house, [("before", ("out", "g4"), ("in", "g2")), ("wore", "g4", "g0")])
            due = [book for book in permutations(house.guests)
                   if max(book.index("g4"), book.index("g0")) < book.index("g2")]
            self.same(list(possible_books(torn)), due)
            self.same(sure_comings(torn), (("g0", "g2"), ("g4", "g2")))

    def test_two_generators_in_turn(self):
        told = FREE.told(("before", IN_BOB, IN_CLEO))
        one, two = possible_books(FREE), possible_books(told)
        found = [], []
        for _ in range(8):
            for at, generator in ((0, one), (1, two)):
                found[at].extend([item for item in [next(generator, None)] if item is not None])
            sure_comings(told)
        self.assertEqual(found, (plain_books(FREE), plain_books(told)))

    def test_strangers(self):
        for torn in (FREE,) + NONE:
            self.same(self.refused(BadFact, next, possible_books(torn, STRANGERS)).fact, STRANGE)


class Comings(PromiseCase):
    def test_in_order(self):
        self.same(sure_comings(FREE), ())
        self.same(sure_comings(FREE.told(("before", IN_BOB, IN_CLEO))), ((BOB, CLEO),))
        told = FREE.told(("before", IN_BOB, IN_CLEO)).told(("before", IN_CLEO, IN_ADA))
        self.same(sure_comings(told), ((CLEO, ADA), (BOB, CLEO), (BOB, ADA)))
        # What the leavings say of the comings.
        told = FREE.told(("wore", ADA, BOB)).told(("before", OUT_ADA, IN_CLEO))
        self.same(sure_comings(told), ((ADA, CLEO), (BOB, CLEO)))
        self.same(sure_comings(Torn(House([ADA]))), ())

    def test_all_evenings_of_all_books(self):
        without = 0
        for torn, _ in torn_samples(12):
            books = plain_books(torn)
            guests = torn.house.guests
            if not books:
                without += 1
                self.refused(NoEvening, sure_comings, torn)
            else:
                due = [(one, two) for one in guests for two in guests if one != two
                       and all(book.index(one) < book.index(two) for book in books)]
                self.same(sure_comings(torn), tuple(due))
        self.assertGreater(without, 20)

    def test_no_evening(self):
        for torn in NONE:
            self.refused(NoEvening, sure_comings, torn)
