"""Points 33 and 34: keeping claims, and lots of facts."""

from leavetaking.claims import Claim
from leavetaking.errors import BadFact
from leavetaking.keeping import keeps, lots_of
from leavetaking.meanings import holds

from tests.helpers import (
    ADA, BOB, CLEO, PromiseCase, TURNED, TURNED_EVENING, fitting, listed, plain_lots, says_form, some_stories,
)

# In TURNED_EVENING ada wears bob's cloak, and bob has left when cleo comes.
YES, ALSO = Claim.of(("wore", ADA, BOB)), Claim.of(("before", ("out", BOB), ("in", CLEO)))
NO, NOR = Claim.of(("wore", ADA, CLEO)), Claim.of(("there", ("in", CLEO), 1, (BOB,)))
STRANGE = ("wore", "zoe", ADA)
A, B, C, D = ("wore", ADA, BOB), ("wore", BOB, CLEO), ("chose", CLEO, 1), ("settled", ADA, 0)
F_A, F_B, F_C, F_D = [Claim.of(fact) for fact in (A, B, C, D)]


class Keeping(PromiseCase):
    def check(self, claim, due):
        self.same(keeps(TURNED, TURNED_EVENING, claim), due)
        self.same(keeps(TURNED, listed(TURNED_EVENING), claim), due)
        self.same(keeps(TURNED, TURNED_EVENING, ~claim), not due)

    def test_facts(self):
        for claim, due in ((YES, True), (ALSO, True), (NO, False), (NOR, False)):
            self.check(claim, due)

    def test_and_or(self):
        for one, of_one in ((YES, True), (NO, False)):
            for two, of_two in ((ALSO, True), (NOR, False)):
                self.check(one & two, of_one and of_two)
                self.check(one | two, of_one or of_two)
                self.check(~one | two, not of_one or of_two)
        self.check((YES | NO) & ~(NOR & ALSO), True)
        self.check((YES & NO) | (NOR & ALSO), False)
        self.check(Claim.some([NO, NOR, YES]), True)
        self.check(Claim.every([YES, ALSO, NO]), False)

    def test_every_claim_of_the_samples(self):
        for story, claim in some_stories(6):
            for evening in fitting(story):
                self.same(keeps(story.house, evening, claim), says_form(story.house, evening, claim.form))
                for fact in claim.facts:
                    self.assertIs(keeps(story.house, evening, Claim.of(fact)), holds(story.house, evening, fact))

    def test_strangers(self):
        for claim in (Claim.of(STRANGE), YES | Claim.of(STRANGE), NO & Claim.of(STRANGE), Claim.of(STRANGE) | YES):
            self.same(self.refused(BadFact, keeps, TURNED, TURNED_EVENING, claim).fact, STRANGE)


class Lots(PromiseCase):
    def test_facts(self):
        self.same(lots_of(F_A), ((A,),))
        self.same(lots_of(Claim.of(STRANGE)), ((STRANGE,),))
        self.same(lots_of(~F_A), ((("spared", ADA, BOB),),))

    def test_or(self):
        self.same(lots_of(F_B | F_A), ((B,), (A,)))
        self.same(lots_of((F_B | F_A) | (F_C | F_A)), ((B,), (A,), (C,)))
        self.same(lots_of(F_A | F_A), ((A,),))

    def test_and(self):
        self.same(lots_of(F_B & F_A), ((B, A),))
        self.same(lots_of((F_A | F_B) & (F_C | F_D)), ((A, C), (A, D), (B, C), (B, D)))
        self.same(lots_of(F_A & (F_B | F_C) & F_D), ((A, B, D), (A, C, D)))

    def test_facts_that_stand_twice(self):
        self.same(lots_of(F_A & F_A), ((A,),))
        self.same(lots_of((F_B & F_A) & (F_A & F_C)), ((B, A, C),))
        self.same(lots_of((F_A | F_B) & (F_B | F_A)), ((A, B), (A,), (B,), (B, A)))

    def test_lots_that_come_about_twice(self):
        self.same(lots_of((F_A & F_B) | (F_A & F_B)), ((A, B),))
        self.same(lots_of((F_A & F_B) | (F_B & F_A)), ((A, B), (B, A)))
        # (A, C) comes about from A and (A, C) as it does from A and C.
        self.same(lots_of(F_A & (F_C | (F_A & F_C))), ((A, C),))
        self.same(lots_of((F_A | (F_A & F_B)) & (F_B | F_C)), ((A, B), (A, C), (A, B, C)))
        self.same(lots_of(F_C | (F_A & F_B) | (F_C & F_C) | F_A), ((C,), (A, B), (A,)))

    def test_64_lots(self):
        claims = [Claim.of(("chose", ADA, 2 * many)) | Claim.of(("chose", ADA, 2 * many + 1)) for many in range(6)]
        lots = lots_of(Claim.every(claims))
        self.assertEqual((len(lots), len(set(lots))), (64, 64))
        self.same(lots[0], tuple([("chose", ADA, depth) for depth in (0, 2, 4, 6, 8, 10)]))
        self.same(lots[1], tuple([("chose", ADA, depth) for depth in (0, 2, 4, 6, 8, 11)]))
        self.same(lots[-1], tuple([("chose", ADA, depth) for depth in (1, 3, 5, 7, 9, 11)]))

    def test_a_claim_of_very_many_facts(self):
        claims = [Claim.of(("chose", ADA, depth)) for depth in range(2)]
        for _ in range(10):
            claims = [one & two for one, two in zip(claims, claims[::-1])]
        self.same([lots_of(claim) for claim in claims], [
            ((("chose", ADA, 0), ("chose", ADA, 1)),), ((("chose", ADA, 1), ("chose", ADA, 0)),),
        ])

    def test_every_claim_of_the_samples(self):
        for story, claim in some_stories(10):
            for told in (claim, ~claim):
                lots = lots_of(told)
                self.same(lots, tuple(plain_lots(told.form)))
                for evening in fitting(story)[:5]:
                    some = any(all(holds(story.house, evening, fact) for fact in lot) for lot in lots)
                    self.assertIs(keeps(story.house, evening, told), some)
