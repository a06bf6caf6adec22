"""Points 100 and 101: first chains, verdicts over all chains, and tables of wearings."""

from itertools import permutations
from random import Random

from leavetaking.chains import forward, is_chain
from leavetaking.claims import Claim
from leavetaking.errors import BadFact, NoEvening
from leavetaking.evenings import wearing_of
from leavetaking.houses import House
from leavetaking.keeping import keeps
from leavetaking.seasons import Season, night_story
from leavetaking.seasonwords import first_chain, is_season_table, season_verdict, sure_after
from leavetaking.wearings import evening_of_wearing

from tests.helpers import ADA, BOB, CLEO, PromiseCase, all_facts, crowd, listed, plain_wearings, some_claim, within
from tests.helpers_seasons import plain_rows, plain_story, some_seasons

HOUSE = House([ADA, BOB])
OWN, OTHER = (ADA, BOB), (BOB, ADA)
FREE = Season(HOUSE, [((ADA, BOB), ())] * 3)
NOTHING = Season(HOUSE, [((ADA, BOB), []), ((ADA, BOB), [("wore", ADA, ADA), ("wore", BOB, ADA)])])
IN_OWN, IN_OTHER = Claim.of(("wore", ADA, ADA)), Claim.of(("wore", ADA, BOB))
LATE = Claim.of(("before", ("in", BOB), ("out", ADA)))


def row_of_chain(season, chain):
    """The wearings of the evenings."""
    return tuple([wearing_of(season.house, evening) for evening in chain])


def plain_word(season, night, claim):
    """The word, told by all rows of wearings."""
    keep, broken = plain_rows(season, [(night, claim)]), plain_rows(season, [(night, ~claim)])
    return {(False, False): "none", (True, False): "sure", (False, True): "never", (True, True): "open"}[bool(keep), bool(broken)]


class FirstChains(PromiseCase):
    def test_the_first_row_of_wearings(self):
        chain = first_chain(FREE)
        self.same(row_of_chain(FREE, chain), (OWN, OWN, OWN))
        self.same(chain, (evening_of_wearing(night_story(FREE, 0, OWN), OWN),) * 3)
        # If ada leaves in the cloak of bob on the second night, it can do so on the first one or not.
        chain = first_chain(FREE, [(1, IN_OTHER)])
        self.same(row_of_chain(FREE, chain), (OWN, OTHER, OWN))
        self.same(is_chain(FREE, chain), True)
        self.assertIsNone(first_chain(NOTHING))

    def test_claims_of_one_night_are_combined_in_order(self):
        claims = [(1, LATE), [2, IN_OTHER], (1, IN_OTHER | IN_OWN)]
        chain = first_chain(FREE, claims)
        self.same(row_of_chain(FREE, chain), (OWN, OWN, OTHER))
        self.same(chain[1], evening_of_wearing(night_story(FREE, 1, OWN), OWN, Claim.every([LATE, IN_OTHER | IN_OWN])))
        self.same(chain[2], evening_of_wearing(night_story(FREE, 2, OWN), OTHER, IN_OTHER))
        self.same(keeps(HOUSE, chain[1], LATE), True)
        # Both claims are kept in some evening of the night, but not in one and the same.
        self.assertIsNone(first_chain(FREE, [(1, IN_OWN), (1, IN_OTHER)]))
        self.same(row_of_chain(FREE, first_chain(FREE, [(1, IN_OWN), (2, IN_OTHER), (0, IN_OTHER), (0, LATE)])), (OTHER, OWN, OTHER))
        self.same(first_chain(FREE, ()), first_chain(FREE))

    def test_claims_that_are_not_of_the_house(self):
        wrong, other = ("wore", ADA, "zoe"), ("chose", BOB, -1)
        for season in (FREE, NOTHING):
            claims = [(1, IN_OWN), (1, IN_OTHER | Claim.of(wrong)), (0, Claim.of(other))]
            self.same(self.refused(BadFact, first_chain, season, claims).fact, wrong)
            self.same(self.refused(BadFact, first_chain, season, claims[::-1]).fact, other)
            self.same(self.refused(BadFact, season_verdict, season, 1, Claim.of(wrong)).fact, wrong)

    def test_all_rows_of_wearings(self):
        draw = Random(100)
        lengths = []
        for season, claim in some_seasons(70):
            facts = [fact for fact in all_facts(season.house) if fact[0] in ("wore", "spared", "before", "chose")]
            claims = [(draw.randrange(len(season)), draw.choice((claim, some_claim(draw, facts)))) for _ in range(draw.randint(0, 4))]
            rows = plain_rows(season, claims)
            chain = first_chain(season, claims)
            lengths.append((len(rows) > 0, len(claims)))
            if not rows:
                self.assertIsNone(chain)
                continue
            self.same(row_of_chain(season, chain), rows[0])
            self.assertIs(is_chain(season, chain), True)
            brings = season.house.brings
            for night, wearing in enumerate(rows[0]):
                told = [each for other, each in claims if other == night]
                due = evening_of_wearing(plain_story(season, night, brings), wearing, Claim.every(told) if told else None)
                self.same(chain[night], due)
                brings = wearing
        self.assertGreater(len(set(lengths)), 7)

    def test_four_guests_and_nights(self):
        house = crowd(4)
        season = Season(house, [(house.guests[::-1], [("before", ("in", "g0"), ("out", "g3"))])] * 4)
        claims = [(night, Claim.of(("spared", f"g{night}", f"g{night}"))) for night in range(4)]
        with within(60):
            chain = first_chain(season, claims)
            self.same(is_chain(season, chain), True)
        for night, claim in claims:
            self.assertIs(keeps(house, chain[night], claim), True)


class SeasonVerdicts(PromiseCase):
    def fields(self, season, night, claim):
        found = season_verdict(season, night, claim)
        return (found.word, found.keeping, found.breaking)

    def test_words(self):
        self.same(self.fields(NOTHING, 0, IN_OWN), ("none", None, None))
        self.same(self.fields(FREE, 1, IN_OWN), ("open", first_chain(FREE, [(1, IN_OWN)]), first_chain(FREE, [(1, ~IN_OWN)])))
        early = Season(HOUSE, [((ADA, BOB), []), ((ADA, BOB), [("before", ("out", ADA), ("in", BOB)), ("wore", ADA, BOB)])])
        self.same(self.fields(early, 0, IN_OTHER), ("sure", first_chain(early), None))
        self.same(self.fields(early, 0, IN_OWN), ("never", None, first_chain(early)))
        self.same(self.fields(early, 1, LATE), ("never", None, first_chain(early)))

    def test_all_words(self):
        words = []
        for season, claim in some_seasons(100):
            for night in range(len(season)):
                word = plain_word(season, night, claim)
                self.same(self.fields(season, night, claim), (
                    word, first_chain(season, [(night, claim)]), first_chain(season, [(night, ~claim)]),
                ))
                words.append(word)
        self.assertGreater(min([words.count(word) for word in ("none", "sure", "never", "open")]), 4)


class SureAfter(PromiseCase):
    def test_all_chains(self):
        told = 0
        for season, _ in some_seasons(140):
            rows = plain_rows(season)
            for night in range(len(season)):
                if not rows:
                    self.refused(NoEvening, sure_after, season, night)
                    continue
                cloaks = [{row[night][at] for row in rows} for at in range(len(season.house))]
                due = tuple([cloak.pop() if len(cloak) == 1 else None for cloak in cloaks])
                self.same(sure_after(season, night), due)
                told += None in due and set(due) != {None}
        self.assertGreater(told, 5)

    def test_nights(self):
        self.same([sure_after(FREE, night) for night in range(3)], [(None, None)] * 3)
        season = Season(HOUSE, [((ADA, BOB), []), ((ADA, BOB), [("wore", ADA, BOB)])])
        self.same([sure_after(season, night) for night in range(2)], [(None, None), OTHER])
        for night in range(2):
            self.refused(NoEvening, sure_after, NOTHING, night)


class SeasonTables(PromiseCase):
    def test_tables(self):
        both = (OWN, OTHER)
        self.same(is_season_table(FREE, (both,) * 3), True)
        self.same(is_season_table(FREE, listed((both[::-1] * 2,) * 3)), True)
        for night in range(3):
            for wearing in both:
                table = [both, both, both]
                table[night] = (wearing,)
                self.same(is_season_table(FREE, table), False)
        self.same(is_season_table(FREE, ((), both, both)), False)

    def test_more_wearings_than_needed(self):
        season = Season(HOUSE, [((ADA, BOB), [("wore", ADA, BOB)]), ((ADA, BOB), [("before", ("out", ADA), ("in", BOB))])])
        self.same(forward(season), ((OTHER,), (OTHER,)))
        self.same(is_season_table(season, ((OTHER,), (OTHER,))), True)
        # If they could come in their own cloaks, they could leave in their own ones.
        self.same(is_season_table(season, ((OWN, OTHER), (OTHER,))), False)
        self.same(is_season_table(season, ((OTHER, OWN), (OTHER, OWN))), True)
        self.same(is_season_table(season, ((OTHER,), (OTHER, OWN))), True)
        # What is missing for the first night is not made up for.
        self.same(is_season_table(season, ((OWN,), (OWN, OTHER))), False)

    def test_seasons_without_a_chain(self):
        self.same(is_season_table(NOTHING, ((OWN, OTHER), ())), True)
        self.same(is_season_table(NOTHING, ((OWN,), ())), False)
        never = Season(HOUSE, [((ADA, BOB), [("chose", ADA, 0)]), ((ADA, BOB), [])])
        self.same([is_season_table(never, table) for table in (((), ()), ((OWN,), ()), ((OWN,), (OWN, OTHER)))], [True, False, True])

    def test_all_tables(self):
        draw = Random(101)
        verdicts = []
        for season, _ in some_seasons(40):
            every = list(permutations(season.house.guests))
            self.assertIs(is_season_table(season, forward(season)), True)
            for _ in range(5):
                table = [list(wearings) + draw.sample(every, draw.choice((0, 0, 1))) for wearings in forward(season)]
                if draw.choice((True, False)) and table[-1]:
                    table[draw.randrange(len(table))][:1] = []
                verdicts.append(self.plain_judged(season, table))
                self.assertIs(is_season_table(season, table), verdicts[-1])
        self.assertGreater(min(verdicts.count(True), verdicts.count(False)), 25)

    def plain_judged(self, season, table):
        for night, wearings in enumerate(table):
            for brings in table[night - 1] if night else [season.house.brings]:
                if not set(plain_wearings(plain_story(season, night, brings))) <= set(wearings):
                    return False
        return True

    def test_strange_claims(self):
        self.same(self.refused(BadFact, first_chain, FREE, [(0, Claim.of(("wore", CLEO, ADA)))]).fact, ("wore", CLEO, ADA))
