"""Points 32 and 33: claims and their facts."""

from leavetaking.claims import Claim, check_claim
from leavetaking.errors import BadFact
from leavetaking.houses import House

from tests.helpers import ADA, BOB, CLEO, GUESTS, PromiseCase, all_facts, fitting, listed, says_form, some_stories

WORE, SPARED = ("wore", ADA, BOB), ("spared", ADA, BOB)
HUNG, BARE = ("hung", ("out", ADA), 1, (BOB, CLEO)), ("bare", ("out", ADA), 1, (BOB, CLEO))
EARLY, LATE = ("before", ("out", ADA), ("in", CLEO)), ("before", ("in", CLEO), ("out", ADA))
STRANGE = ("wore", "zoe", ADA)
STRANGER = ("chose", "yan", 1)
ONE, TWO, THREE = Claim.of(WORE), Claim.of(HUNG), Claim.of(EARLY)
F_ONE, F_TWO, F_THREE = ("fact", WORE), ("fact", HUNG), ("fact", EARLY)


class Forms(PromiseCase):
    def test_of(self):
        for fact in (WORE, HUNG, EARLY, STRANGE):
            self.assertIsInstance(Claim.of(fact), Claim)
            self.same(Claim.of(fact).form, ("fact", fact))
            self.same(Claim.of(listed(fact)).form, ("fact", fact))

    def test_a_claim_copies_its_fact(self):
        fact = listed(HUNG)
        claim = Claim.of(fact)
        fact[3].clear()
        fact[1][1] = CLEO
        fact.pop()
        self.same(claim.form, F_TWO)

    def test_and_or(self):
        self.same((ONE & TWO).form, ("and", F_ONE, F_TWO))
        self.same((TWO | ONE).form, ("or", F_TWO, F_ONE))
        self.same((ONE & ONE).form, ("and", F_ONE, F_ONE))
        self.same(((ONE & TWO) | THREE).form, ("or", ("and", F_ONE, F_TWO), F_THREE))
        self.same((ONE & (TWO | THREE)).form, ("and", F_ONE, ("or", F_TWO, F_THREE)))
        self.assertIsInstance(ONE | TWO, Claim)
        self.same((ONE.form, TWO.form), (F_ONE, F_TWO))

    def test_contraries(self):
        self.same((~ONE).form, ("fact", SPARED))
        self.same((~THREE).form, ("fact", LATE))
        self.same((~(ONE & TWO)).form, ("or", ("fact", SPARED), ("fact", BARE)))
        self.same((~(ONE | (TWO & THREE))).form, ("and", ("fact", SPARED), ("or", ("fact", BARE), ("fact", LATE))))
        claim = (ONE | ~TWO) & THREE
        self.same((~~claim).form, claim.form)
        self.assertEqual(~~claim, claim)
        self.same(claim.form, ("and", ("or", F_ONE, ("fact", BARE)), F_THREE))

    def test_the_contrary_of_the_contrary_of_each_fact(self):
        for fact in all_facts(House([ADA, BOB])):
            self.same((~~Claim.of(fact)).form, ("fact", fact))

    def test_every_and_some(self):
        for pack in (tuple, list):
            self.same(Claim.every(pack([ONE])).form, F_ONE)
            self.same(Claim.some(pack([ONE])).form, F_ONE)
            self.same(Claim.every(pack([ONE, TWO])).form, ("and", F_ONE, F_TWO))
            self.same(Claim.some(pack([ONE, TWO])).form, ("or", F_ONE, F_TWO))
            self.same(Claim.every(pack([THREE, ONE, TWO])).form, ("and", ("and", F_THREE, F_ONE), F_TWO))
            self.same(Claim.some(pack([THREE, ONE, TWO])).form, ("or", ("or", F_THREE, F_ONE), F_TWO))
            inner = Claim.some([ONE, ONE | TWO])
            self.same(Claim.every(pack([inner, ~inner])).form, ("and", inner.form, (~inner).form))

    def test_every_and_some_do_not_change_what_they_are_passed(self):
        claims = [ONE, TWO, THREE]
        found = (Claim.every(claims), Claim.some(claims))
        self.assertEqual(claims, [ONE, TWO, THREE])
        claims.clear()
        self.assertEqual(found, (ONE & TWO & THREE, ONE | TWO | THREE))

    def test_twelve_deep(self):
        claim = Claim.every([ONE, TWO, THREE] * 4)
        depth, form = 1, claim.form
        while form[0] != "fact":
            depth, form = depth + 1, form[1]
        self.assertEqual(depth, 12)
        self.assertEqual(~~claim, claim)
        self.same(claim.facts, (WORE, HUNG, EARLY))
        claim = ONE
        for _ in range(11):
            claim = claim & ~claim
        self.same(claim.facts, (WORE, SPARED))


class Facts(PromiseCase):
    def test_facts(self):
        self.same(ONE.facts, (WORE,))
        self.same((TWO & ONE).facts, (HUNG, WORE))
        self.same((TWO | (THREE & ONE)).facts, (HUNG, EARLY, WORE))
        self.same((~(TWO | (THREE & ONE))).facts, (BARE, LATE, SPARED))

    def test_facts_that_stand_twice(self):
        self.same((ONE & ONE).facts, (WORE,))
        self.same(((TWO | ONE) & (ONE | (THREE & TWO))).facts, (HUNG, WORE, EARLY))
        self.same(((THREE & ~THREE) | ~(~THREE & ONE)).facts, (EARLY, LATE, SPARED))

    def test_facts_that_say_the_same_are_different(self):
        one, two = ("bare", ("out", ADA), 1, (BOB, CLEO)), ("bare", ("out", ADA), 1, (CLEO, BOB))
        self.same((Claim.of(one) & Claim.of(two) & Claim.of(listed(one))).facts, (one, two))


class Equal(PromiseCase):
    def test_equal_claims(self):
        self.assertIs(Claim.of(listed(HUNG)) == TWO, True)
        self.assertIs((ONE & TWO) == (Claim.of(WORE) & Claim.of(HUNG)), True)
        self.assertIs(~(ONE & TWO) == (~ONE | ~TWO), True)
        self.assertIs((ONE & TWO) != Claim.every([ONE, TWO]), False)

    def test_unequal_claims(self):
        for one, two in ((ONE, TWO), (ONE & TWO, TWO & ONE), (ONE & TWO, ONE | TWO), (ONE, ONE & ONE), (ONE, ~ONE),
                         (Claim.every([ONE, TWO, THREE]), ONE & (TWO & THREE))):
            self.assertIs(one == two, False)
            self.assertIs(two == one, False)
            self.assertIs(one != two, True)

    def test_a_claim_equals_no_value_that_is_no_claim(self):
        for value in (None, True, 3, "", WORE, F_ONE, list(F_ONE), object(), Claim, House(GUESTS)):
            self.assertIs(ONE == value, False)
            self.assertIs(value == ONE, False)
            self.assertIs(ONE != value, True)


class Checked(PromiseCase):
    def test_a_claim_of_the_house(self):
        house = House(GUESTS)
        for claim in (ONE, ONE & TWO | ~THREE, Claim.of(listed(HUNG))):
            self.assertIsNone(check_claim(house, claim))

    def test_strangers(self):
        house = House(GUESTS)
        for claim, due in (
            (Claim.of(STRANGE), STRANGE),
            (~Claim.of(STRANGE), ("spared", "zoe", ADA)),
            (ONE & Claim.of(STRANGE), STRANGE),
            (ONE | (TWO & Claim.of(STRANGER)) | Claim.of(STRANGE), STRANGER),
            ((Claim.of(STRANGE) | Claim.of(STRANGER)) & ONE, STRANGE),
        ):
            self.same(self.refused(BadFact, check_claim, house, claim).fact, due)

    def test_it_goes_by_the_house(self):
        claim = ONE & Claim.of(EARLY) & TWO
        self.same(self.refused(BadFact, check_claim, House([ADA, BOB]), claim).fact, EARLY)
        self.same(self.refused(BadFact, check_claim, House([ADA, CLEO]), claim).fact, WORE)


class Meaning(PromiseCase):
    def test_the_contrary_is_kept_by_the_other_evenings(self):
        for story, claim in some_stories(4):
            for evening in fitting(story):
                self.assertIs(says_form(story.house, evening, (~claim).form),
                              not says_form(story.house, evening, claim.form))
