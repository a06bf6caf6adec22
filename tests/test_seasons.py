"""Point 97: seasons."""

from leavetaking.errors import BadBook, BadBrings, BadFact
from leavetaking.houses import House
from leavetaking.seasons import Season, night_story
from leavetaking.stories import Story

from tests.helpers import ADA, BOB, CLEO, GUESTS, PromiseCase, TURNED, TURNED_BOOK, listed

FACT = ("hung", ("out", ADA), 1, (BOB, CLEO))
NIGHTS = ((TURNED_BOOK, (FACT,)), (GUESTS, ()), ((CLEO, ADA, BOB), (("wore", ADA, ADA), ("wore", ADA, ADA))))
SEASON = Season(TURNED, NIGHTS)


class Seasons(PromiseCase):
    def test_fields(self):
        self.assertEqual(SEASON.house, TURNED)
        self.same(SEASON.nights, NIGHTS)
        self.same(Season(TURNED, listed(NIGHTS)).nights, NIGHTS)
        self.same(Season(TURNED, [(list(GUESTS), [])]).nights, ((GUESTS, ()),))

    def test_length_and_iteration(self):
        self.same(len(SEASON), 3)
        self.same(tuple(SEASON), NIGHTS)
        self.same([(book, len(facts)) for book, facts in SEASON], [(book, len(facts)) for book, facts in NIGHTS])
        self.same(len(Season(TURNED, NIGHTS[:1])), 1)

    def test_arguments_are_copied(self):
        nights = listed(NIGHTS)
        season = Season(TURNED, nights)
        nights[0][1][0][3].clear()
        nights[1][0].reverse()
        nights.pop()
        self.same(season.nights, NIGHTS)

    def test_errors_in_their_order(self):
        wrong, other = ("wore", ADA, "zoe"), ("chose", BOB, -1)
        for book in ((ADA, BOB), (), (ADA, BOB, BOB), (ADA, BOB, "zoe"), GUESTS + (ADA,)):
            # A wrong book of a later night comes ahead of a wrong fact of an earlier one.
            self.refused(BadBook, Season, TURNED, [(GUESTS, [wrong]), (book, [])])
            self.refused(BadBook, Season, TURNED, [(book, []), (GUESTS, [])])
        self.same(self.refused(BadFact, Season, TURNED, [(GUESTS, [FACT]), (GUESTS, [FACT, wrong]), (GUESTS, [other])]).fact, wrong)
        self.same(self.refused(BadFact, Season, TURNED, [(GUESTS, [listed(other), wrong])]).fact, other)
        self.same(self.refused(BadFact, Season, TURNED, [(GUESTS, []), (GUESTS, [other]), (GUESTS, [wrong])]).fact, other)

    def test_night_story(self):
        brings = (CLEO, ADA, BOB)
        found = night_story(SEASON, 0, list(brings))
        self.assertEqual(found, Story(TURNED.bringing(brings), TURNED_BOOK, [FACT]))
        self.same((found.book, found.facts, found.house.brings), (TURNED_BOOK, (FACT,), brings))
        self.same(night_story(SEASON, 2, GUESTS).facts, NIGHTS[2][1])
        self.same(night_story(SEASON, 2, GUESTS).house.depth(BOB), 2)
        # The season is as it was.
        self.same(SEASON.house.brings, TURNED.brings)

    def test_a_wrong_wearing_to_come_in(self):
        self.refused(BadBrings, night_story, SEASON, 0, (ADA, ADA, BOB))

    def test_houses_with_pegs(self):
        season = Season(House([ADA], pegs=1), [([ADA], [("wore", ADA, ADA)])])
        self.same(night_story(season, 0, [ADA]).house.pegs, 1)
