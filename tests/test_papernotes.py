"""Points 102 and 107: notes of papers."""

import re

from leavetaking.casework import is_refutation, refutation
from leavetaking.claims import Claim
from leavetaking.houses import House
from leavetaking.papernotes import format_paper, parse_paper
from leavetaking.stories import Story

from tests.helpers import ADA, BOB, CLEO, GUESTS, PLAIN, bounded_stories, crowd, listed
from tests.helpers_notes import NoteCase, first_wrong, read_fact

TWO = House([ADA, BOB])
PAPER = (
    ((BOB, ADA), (("before", ("in", ADA), ("out", BOB)), ("chose", BOB, 1)), (1, None), 2),
    ((ADA, BOB), (), (None, None), 0),
)
NOTE = ("wearing bob ada\nfacts [before in:ada out:bob] [chose bob 1]\nlevels 1 - come 2\n"
        "wearing ada bob\nfacts\nlevels - - come 0\n")


def line_of(house):
    """Tells the index of the first line that is not right, read off points 102 and 107."""
    level = "(-|[0-%d])" % len(house)

    def is_right(ahead, line):
        words = line.split(" ")
        if len(ahead) % 3 == 0:
            return words[0] == "wearing" and sorted(words[1:]) == sorted(house.guests)
        if len(ahead) % 3 == 1:
            if not re.fullmatch(r"facts( \[[^\[\]]*\])*", line):
                return False
            facts = [read_fact(house, text) for text in re.findall(r"\[([^\[\]]*)\]", line)]
            return all(fact is not None and fact[0] in PLAIN for fact in facts)
        return bool(re.fullmatch("levels( %s){%d} come [0-%d]" % (level, len(house), len(house)), line))

    return lambda text: first_wrong(text, is_right, lambda lines: len(lines) % 3 == 0)


class PaperNotes(NoteCase):
    def written(self, house, paper, note):
        """The paper is written as this note, and read from it."""
        self.same(format_paper(paper), note)
        self.same(format_paper(listed(paper)), note)
        self.same(parse_paper(house, note), paper)

    def test_notes(self):
        self.written(TWO, PAPER, NOTE)
        self.written(TWO, PAPER[:1], "".join([line + "\n" for line in NOTE.split("\n")[:3]]))
        self.written(TWO, PAPER[::-1] + PAPER[:1] * 2, "".join([line + "\n" for line in NOTE.split("\n")[3:6] + NOTE.split("\n")[:3] * 3]))
        self.written(House([ADA]), (((ADA,), (("after", ("in", ADA), 0, ()),), (0,), 1),), "wearing ada\nfacts [after in:ada 0]\nlevels 0 come 1\n")

    def test_the_empty_paper(self):
        for house in (TWO, House([ADA])):
            self.written(house, (), "")
        self.not_read(0, parse_paper, TWO, "\n")
        self.not_read(0, parse_paper, TWO, " ")

    def test_refutations(self):
        papers = 0
        for story, claim in bounded_stories(4):
            for told in (None, claim, ~claim):
                paper = refutation(story, told)
                if paper and len(paper) <= 30:
                    found = parse_paper(story.house, format_paper(paper))
                    self.same(found, paper)
                    self.same(is_refutation(story, told, found), True)
                    papers += 1
        self.assertGreater(papers, 15)

    def test_levels_and_come(self):
        house = crowd(11)
        paper = ((house.guests, (), tuple(range(1, 12)), 11), (house.guests[::-1], (), (None,) * 10 + (0,), 10))
        note = ("wearing " + " ".join(house.guests) + "\nfacts\nlevels 1 2 3 4 5 6 7 8 9 10 11 come 11\n"
                + "wearing " + " ".join(house.guests[::-1]) + "\nfacts\nlevels - - - - - - - - - - 0 come 10\n")
        self.written(house, paper, note)
        for levels in ("1 3 come 2", "1 - come 3", "1 -1 come 2", "1 come 2", "1 2 1 come 2", "1 - come -", "1 - come", "1 - 2", "1 - come -1", "1 x come 2",
                       "1 None come 2", "01 - come 2", "+1 - come 2", "-0 - come 2", "1 - come 02", "1 -  come 2", "1 - Come 2", "1 - come 2 ", "",
                       "1 - go 2", "come 2", "1 -- come 2", "1 - come 2 come 2", "40 - come 2", "1 - come 10"):
            self.not_read(2, parse_paper, TWO, f"wearing bob ada\nfacts\nlevels {levels}\n")
        self.not_read(2, parse_paper, TWO, "wearing bob ada\nfacts\nlevels\n")
        self.not_read(2, parse_paper, TWO, "wearing bob ada\nfacts\nlevel 1 - come 2\n")

    def test_facts_that_are_not_plain(self):
        for fact in ("wore ada bob", "spared ada bob", "hung in:ada 1 bob", "there in:ada 1 bob", "ahead in:ada 1 in:bob", "settled ada 1"):
            self.not_read(1, parse_paper, TWO, f"wearing bob ada\nfacts [{fact}]\n")
            self.not_read(1, parse_paper, TWO, f"wearing bob ada\nfacts [chose ada 1] [{fact}]\nlevels 1 - come 2\n")
        for fact in ("before in:ada out:bob", "bare in:ada 1 bob", "away in:ada 1 bob ada", "after in:ada 1 in:bob", "chose ada 40"):
            self.same(len(parse_paper(TWO, f"wearing bob ada\nfacts [{fact}] [{fact}]\nlevels - 2 come 0\n")[0][1]), 2)

    def test_wrong_facts(self):
        for facts in (" ", " []", " [chose ada]", " [chose zoe 1]", " [chose ada 1", " chose ada 1", "[chose ada 1]", "  [chose ada 1]", " [chose ada 1] ",
                      " [chose ada 1][chose ada 1]", " [chose ada 1]  [chose ada 1]", " [[chose ada 1]]", " [chose ada 1]]", " [chose ada -1]",
                      " [chose ada 1] x", " ([chose ada 1] & [chose ada 1])", " [ chose ada 1]", "x", ": [chose ada 1]", " [chose ada 1],[chose ada 1]"):
            self.not_read(1, parse_paper, TWO, f"wearing bob ada\nfacts{facts}\nlevels 1 - come 2\n")
        for line in ("fact", "", "Facts", "wearing bob ada", "levels 1 - come 2"):
            self.not_read(1, parse_paper, TWO, f"wearing bob ada\n{line}\nlevels 1 - come 2\n")

    def test_wrong_wearings(self):
        for wearing in ("ada ada", "ada", "ada bob cleo", "ada zoe", "", " ada bob", "ada  bob", "ada bob "):
            self.not_read(0, parse_paper, TWO, f"wearing {wearing}\nfacts\nlevels 1 - come 2\n")
            self.not_read(6, parse_paper, TWO, NOTE + f"wearing {wearing}\nfacts\nlevels 1 - come 2\n")
        self.not_read(0, parse_paper, TWO, "wearing\n")
        self.not_read(0, parse_paper, House(GUESTS), NOTE)

    def test_lines_that_are_missing(self):
        lines = NOTE.split("\n")[:-1]
        for many in (1, 2, 4, 5):
            self.not_read(many, parse_paper, TWO, "".join([line + "\n" for line in lines[:many]]))
            self.not_read(many, parse_paper, TWO, "\n".join(lines[:many + 1]))
        self.not_read(2, parse_paper, TWO, "\n".join(lines[:3]))
        self.not_read(3, parse_paper, TWO, "".join([line + "\n" for line in lines[:3]]) + "\n")

    def test_guests_that_are_called_like_words_of_notes(self):
        house = House(["facts", "come", "levels"])
        paper = ((("come", "levels", "facts"), (("before", ("in", "come"), ("out", "levels")),), (3, None, 0), 3),)
        self.written(house, paper, "wearing come levels facts\nfacts [before in:come out:levels]\nlevels 3 - 0 come 3\n")

    def test_spoiled_notes(self):
        house = House([ADA, BOB, CLEO])
        story = Story(house, (ADA, BOB, CLEO), [("wore", ADA, BOB), ("wore", BOB, ADA), ("chose", CLEO, 0)])
        paper = refutation(story, Claim.of(("bare", ("in", CLEO), 2, (ADA, BOB))))
        read, refused = 0, 0
        for guests, found, step in ((TWO, PAPER, 1), (house, paper, 1), (TWO, PAPER[1:], 1), (TWO, (), 1)):
            one, two = self.spoil(format_paper(found), lambda text: parse_paper(guests, text), format_paper, line_of(guests), step, "a1 -:\n[]")
            read, refused = read + one, refused + two
        self.assertGreater(read, 30)
        self.assertGreater(refused, 2000)
