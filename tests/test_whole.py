"""The document as a whole: what goes through several parts in one row."""

from fractions import Fraction

from leavetaking.casework import first_evening, is_refutation, refutation
from leavetaking.chains import forward, is_chain
from leavetaking.chances import chance_of, odds, story_chance
from leavetaking.claimnotes import format_claim, parse_claim
from leavetaking.claims import Claim
from leavetaking.counting import evening_by_number, evening_count, evening_number
from leavetaking.customs import Custom
from leavetaking.customverdicts import custom_verdict
from leavetaking.desks import Desk, Supposing
from leavetaking.eveningnotes import format_evening, parse_evening
from leavetaking.evenings import book_of, evenings, is_evening, row_of, wearing_of
from leavetaking.fitting import fits
from leavetaking.games import Game
from leavetaking.graphs import graph_of
from leavetaking.housenotes import format_house, parse_house
from leavetaking.houses import House
from leavetaking.keeping import keeps
from leavetaking.means import likeliest, wearing_odds
from leavetaking.openverdicts import is_open_refutation, open_verdict
from leavetaking.papernotes import format_paper, parse_paper
from leavetaking.quizzes import answer_rows
from leavetaking.rowbounds import row_conflict
from leavetaking.rowcounts import row_evening_count
from leavetaking.rowstories import row_story
from leavetaking.seasons import Season, night_story
from leavetaking.seasonwords import first_chain, is_season_table, season_verdict
from leavetaking.seen import Seen
from leavetaking.solving import solve
from leavetaking.stories import Story
from leavetaking.storynotes import format_story, parse_story
from leavetaking.takings import takings
from leavetaking.torn import torn_of
from leavetaking.tornbooks import possible_books
from leavetaking.unrolling import unrolled
from leavetaking.verdicts import is_verdict, verdict
from leavetaking.watches import Watch
from leavetaking.wearings import possible_wearings

from tests.helpers import ADA, BOB, CLEO, GUESTS, PromiseCase, TURNED, bounded_stories, listed, plain_word

STORY_NOTE = """house ada bob cleo
pegs 2
taste ada 3 2 1
taste bob 1 5 5
taste cleo 3 2 1
depth bob 2
book bob ada cleo
spared ada ada
before in:ada out:bob
"""
CLAIM_NOTE = "([wore cleo ada] | [after in:cleo 1 out:bob])\n"


class FromNotes(PromiseCase):
    def test_a_claim_about_a_story(self):
        story = parse_story(STORY_NOTE)
        claim = parse_claim(story.house, CLAIM_NOTE)
        found = verdict(story, claim)
        self.same(found.word, plain_word(story, claim))
        # The same by way of a torn story whose facts tell the book.
        self.same(open_verdict(torn_of(story), claim).word, found.word)
        self.same(list(possible_books(torn_of(story))), [story.book])
        self.same((format_story(story), format_claim(claim)), (STORY_NOTE, CLAIM_NOTE))

    def test_verdicts_whose_papers_go_through_their_notes(self):
        words = set()
        for story, claim in bounded_stories(10):
            story = parse_story(format_story(story))
            claim = parse_claim(story.house, format_claim(claim))
            found = verdict(story, claim)
            words.add(found.word)
            for evening, kept in ((found.keeping, True), (found.breaking, False)):
                if evening is not None:
                    read = parse_evening(story.house, format_evening(evening))
                    self.same(read, evening)
                    self.assertIs(fits(story, read) and keeps(story.house, read, claim), kept)
            if found.word == "open":
                self.same(is_verdict(story, claim, "open", (found.keeping, found.breaking)), True)
                continue
            paper = parse_paper(story.house, format_paper(found.paper))
            self.same(paper, found.paper)
            told = {"sure": (~claim, found.keeping), "never": (claim, found.breaking), "none": (None, None)}[found.word]
            self.same(is_refutation(story, told[0], paper), True)
            self.same(is_verdict(story, claim, found.word, (told[1], listed(paper))), True)
            if paper:
                self.same(is_refutation(story, told[0], paper[1:]), paper[0][:2] in [item[:2] for item in paper[1:]])
        self.assertEqual(words, {"none", "sure", "never", "open"})

    def test_a_house_that_is_read_is_the_same_house(self):
        house = parse_house(format_house(TURNED))
        self.same(list(evenings(house, GUESTS)), list(evenings(TURNED, GUESTS)))
        self.assertEqual(Season(house, [(GUESTS, [])]).house, TURNED)


class CountsAndVerdicts(PromiseCase):
    def test_counts_chances_and_words_agree(self):
        for story, claim in bounded_stories(4):
            many = [evening_count(story, told) for told in (None, claim, ~claim)]
            self.same(many[0], many[1] + many[2])
            word = verdict(story, claim).word
            self.same({(False, False): "none", (True, False): "sure", (False, True): "never", (True, True): "open"}[
                many[1] > 0, many[2] > 0], word)
            found = odds(story, claim)
            self.same(found == (1, 1), word == "sure")
            self.same(found == (0, 1), word == "never")
            self.same(found is None, word == "none")
            self.same(graph_of(story).counts[0], many[0])
            self.same(tuple([wearing for wearing, _ in wearing_odds(story)]), tuple(possible_wearings(story)))
            self.same([truth for _, truth in answer_rows(story, claim, [])],
                      {"none": [], "sure": [True], "never": [False], "open": [False, True]}[word])

    def test_the_first_evening_has_a_number(self):
        for story, claim in bounded_stories(3):
            evening = first_evening(story, claim)
            if evening is not None:
                number = evening_number(story, evening)
                self.same(evening_by_number(story, number), evening)
                best, chance = likeliest(story)
                self.assertGreaterEqual(Fraction(*chance), Fraction(*chance_of(story.house, story.book, evening)))
                self.same(chance_of(story.house, story.book, best), chance)

    def test_rows_and_their_stories(self):
        house = House(GUESTS, pegs=2)
        for evening in evenings(house, (BOB, ADA, CLEO)):
            row = row_of(evening)
            story = row_story(house, book_of(evening), row)
            self.same(evening_count(story), row_evening_count(house, book_of(evening), row))
            self.assertIsNone(row_conflict(house, book_of(evening), row))
            self.assertGreater(Fraction(*story_chance(story)), 0)

    def test_who_hosts_everybody_settles_more_than_a_verdict(self):
        for story, claim in bounded_stories(2):
            free = Story(story.house, story.book)
            if verdict(free, claim).word == "sure":
                for host in ([], story.house.guests):
                    self.same(solve(Game(story.house, story.book, host, claim)).winner, "host")
            if verdict(free, claim).word == "never":
                self.same(solve(Game(story.house, story.book, story.house.guests, claim)).winner, "foe")


class CustomsAndEvenings(PromiseCase):
    def test_long_evenings_become_evenings(self):
        house = House([ADA, BOB], pegs=2).choosing(BOB, 2)
        custom = Custom(house, [(0, ADA, 1), (1, BOB, 0)], [0])
        found = custom_verdict(custom, Watch.never(("out", ADA, BOB)))
        self.same((found.word, found.keeping), ("open", ()))
        named, book, evening = unrolled(custom, found.breaking)
        self.same(is_evening(named, book, evening), True)
        self.same(parse_evening(parse_house(format_house(named)), format_evening(evening)), evening)
        # ada's kind left in the cloak of bob's kind.
        story = Story(named, book, [("wore", "g0", "g1")])
        self.same(fits(story, evening), True)
        self.same(verdict(story, Claim.of(("before", ("in", "g1"), ("out", "g0")))).word, "sure")
        seen = Seen(book, takings(named, evening), [named.depth(guest) for guest in book])
        self.same([cloak for _, cloak, _ in seen.takings], [step[2] for step in evening if step[0] == "out"])

    def test_nights_are_stories(self):
        season = Season(House(GUESTS), [((CLEO, ADA, BOB), [("before", ("in", BOB), ("out", CLEO))]), (GUESTS, [])])
        claim = Claim.of(("wore", CLEO, CLEO))
        chain = first_chain(season, [(1, claim)])
        self.same(is_chain(season, chain), True)
        wearing = wearing_of(season.house, chain[0])
        second = night_story(season, 1, wearing)
        self.same(fits(second, chain[1]) and keeps(second.house, chain[1], claim), True)
        self.same(evening_number(second, chain[1]) is not None, True)
        self.same(season_verdict(season, 1, claim).keeping, chain)
        self.same(is_season_table(season, forward(season)), True)

    def test_a_desk_and_a_note_in_between(self):
        story = parse_story(STORY_NOTE)
        desk = Desk(story)
        desk.do(("drop", 0))
        with Supposing(desk, [("wore", ADA, ADA)]):
            self.assertIn("wore ada ada\n", format_story(desk.story))
            supposed = parse_story(format_story(desk.story))
            self.assertEqual(supposed, desk.story)
            paper = refutation(supposed, Claim.of(("wore", BOB, ADA)))
            self.same(is_open_refutation(torn_of(supposed), Claim.of(("wore", BOB, ADA)), paper), True)
            self.same(paper, ())
        desk.undo()
        self.same(format_story(desk.story), STORY_NOTE)
