"""Points 102 and 106: notes of claims."""

import re
from random import Random

from leavetaking.claimnotes import format_claim, parse_claim
from leavetaking.claims import Claim
from leavetaking.houses import House

from tests.helpers import ADA, BOB, CLEO, GUESTS, all_facts, some_claim
from tests.helpers_notes import NoteCase, first_wrong, read_fact

HOUSE = House(GUESTS)
WORE = Claim.of(("wore", ADA, BOB))
CHOSE = Claim.of(("chose", BOB, 1))
HUNG = Claim.of(("hung", ("out", ADA), 1, (BOB, CLEO)))
NONE = Claim.of(("after", ("in", ADA), 0, ()))


def is_form(house, text):
    """Whether the text is a form: facts are replaced first, and then parts, until nothing is left."""
    parts = re.split(r"(\[[^\[\]]*\])", text)
    for at in range(1, len(parts), 2):
        if read_fact(house, parts[at][1:-1]) is None:
            return False
        parts[at] = "F"
    if any("F" in part for part in parts[::2]):
        return False
    whole = "".join(parts)
    while "(" in whole and re.search(r"\(F [&|] F\)", whole):
        whole = re.sub(r"\(F [&|] F\)", "F", whole)
    return whole == "F"


def line_of(house):
    """Tells the index of the first line that is not right, read off points 102 and 106."""
    return lambda text: first_wrong(text, lambda ahead, line: not ahead and is_form(house, line), lambda lines: len(lines) == 1)


class ClaimNotes(NoteCase):
    def written(self, claim, note):
        """The claim is written as this note, and read from it."""
        self.same(format_claim(claim), note)
        found = parse_claim(HOUSE, note)
        self.assertEqual(found, claim)
        self.same((found.form, found.facts), (claim.form, claim.facts))

    def test_forms(self):
        self.written(WORE, "[wore ada bob]\n")
        self.written(WORE & CHOSE, "([wore ada bob] & [chose bob 1])\n")
        self.written(WORE | HUNG, "([wore ada bob] | [hung out:ada 1 bob cleo])\n")
        self.written(~(WORE | CHOSE), "([spared ada bob] & [settled bob 1])\n")
        self.written(NONE & NONE, "([after in:ada 0] & [after in:ada 0])\n")
        self.written((WORE & CHOSE) | (HUNG & (WORE | NONE)),
                     "(([wore ada bob] & [chose bob 1]) | ([hung out:ada 1 bob cleo] & ([wore ada bob] | [after in:ada 0])))\n")
        self.written(Claim.every([WORE, CHOSE, NONE, HUNG]),
                     "((([wore ada bob] & [chose bob 1]) & [after in:ada 0]) & [hung out:ada 1 bob cleo])\n")
        self.written(WORE | (CHOSE | NONE), "([wore ada bob] | ([chose bob 1] | [after in:ada 0]))\n")

    def test_every_kind_of_fact(self):
        for fact in all_facts(HOUSE)[::17]:
            claim = Claim.of(fact) | ~Claim.of(fact)
            self.assertEqual(parse_claim(HOUSE, format_claim(claim)), claim)

    def test_twelve_deep(self):
        left = right = WORE
        for number in range(11):
            left = left & CHOSE if number % 2 else left | NONE
            right = HUNG | right if number % 3 else NONE & right
        both = left
        for claim in (left, right, ~left, Claim.of(("chose", ADA, 40)) & right, ~right | both):
            self.assertEqual(parse_claim(HOUSE, format_claim(claim)).form, claim.form)
        self.same(format_claim(left).count("("), 11)

    def test_claims_in_a_fixed_disorder(self):
        draw = Random(106)
        facts = all_facts(HOUSE)
        for _ in range(200):
            claim = some_claim(draw, facts) & some_claim(draw, facts) | some_claim(draw, facts)
            self.assertEqual(parse_claim(HOUSE, format_claim(claim)).form, claim.form)

    def test_brackets_and_spaces_missing_or_too_many(self):
        for note in (
            "wore ada bob", "[wore ada bob", "wore ada bob]", "[[wore ada bob]]", "([wore ada bob])", "[wore ada bob] ", " [wore ada bob]",
            "[ wore ada bob]", "[wore ada bob ]", "[]", "[", "]", "(", ")", "()", "(&)", " ", "[wore ada bob]]", "[wore ada bob])",
            "([wore ada bob] & [chose bob 1]", "[wore ada bob] & [chose bob 1]", "([wore ada bob] & [chose bob 1]))", "([wore ada bob]& [chose bob 1])",
            "([wore ada bob] &[chose bob 1])", "([wore ada bob]&[chose bob 1])", "([wore ada bob]  & [chose bob 1])", "( [wore ada bob] & [chose bob 1])",
            "([wore ada bob] & [chose bob 1] )", "([wore ada bob] & )", "( & [chose bob 1])", "([wore ada bob] [chose bob 1])", "([wore ada bob] ^ [chose bob 1])",
            "([wore ada bob] && [chose bob 1])", "([wore ada bob] & [chose bob 1] & [chose bob 1])", "(([wore ada bob] & [chose bob 1]) [chose bob 1])",
            "((([wore ada bob] & [chose bob 1])))", "([wore ada bob] & [chose bob 1]][", "[wore ada bob] | [wore ada bob]", "(" * 40, "(" * 3000, "([" * 20,
            "(" * 20 + "[wore ada bob]", "[wore ada bob]" + ")" * 20, "~[wore ada bob]", "([wore ada bob] and [chose bob 1])",
        ):
            self.not_read(0, parse_claim, HOUSE, note + "\n")
            self.not_read(0, parse_claim, HOUSE, note)

    def test_facts_that_are_not_of_the_house(self):
        for fact in ("wore ada zoe", "chose bob -1", "chose bob 01", "hung out:ada 1 bob bob", "after in:ada 1 in:ada", "before in:ada in:ada", "fact", ""):
            self.not_read(0, parse_claim, HOUSE, f"[{fact}]\n")
            self.not_read(0, parse_claim, HOUSE, f"([wore ada bob] | [{fact}])\n")
            self.not_read(0, parse_claim, HOUSE, f"([{fact}] | [wore ada bob])\n")
        note = format_claim(HUNG)
        self.assertEqual(parse_claim(HOUSE, note), HUNG)
        self.not_read(0, parse_claim, House([ADA, BOB]), note)

    def test_lines(self):
        self.not_read(0, parse_claim, HOUSE, "")
        self.not_read(0, parse_claim, HOUSE, "\n")
        self.not_read(0, parse_claim, HOUSE, "[wore ada bob]")
        self.not_read(0, parse_claim, HOUSE, "[wore ada\nbob]\n")
        for more in ("\n", " ", "[wore ada bob]\n", "x\ny\n", "[wore ada bob]"):
            self.not_read(1, parse_claim, HOUSE, "[wore ada bob]\n" + more)
        self.not_read(0, parse_claim, HOUSE, "[wore ada]\n[wore ada bob]\n")

    def test_guests_that_are_called_in_and_out(self):
        house = House(["in", "out"])
        claim = Claim.of(("there", ("out", "in"), 1, ("in", "out"))) & Claim.of(("before", ("in", "in"), ("out", "out")))
        note = "([there out:in 1 in out] & [before in:in out:out])\n"
        self.same(format_claim(claim), note)
        self.assertEqual(parse_claim(house, note), claim)

    def test_spoiled_notes(self):
        read, refused = 0, 0
        for claim in (WORE, WORE & CHOSE, (HUNG | NONE) & CHOSE, Claim.of(("ahead", ("in", ADA), 12, (("out", BOB),))) | (WORE & WORE)):
            one, two = self.spoil(format_claim(claim), lambda text: parse_claim(HOUSE, text), format_claim, line_of(HOUSE), 1, "a1 -:\n[]()&|")
            read, refused = read + one, refused + two
        self.assertGreater(read, 15)
        self.assertGreater(refused, 2000)
