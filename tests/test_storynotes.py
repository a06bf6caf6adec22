"""Points 102 and 104: notes of stories."""

from random import Random

from leavetaking.houses import House
from leavetaking.stories import Story
from leavetaking.storynotes import format_story, parse_story

from tests.helpers import ADA, BOB, CLEO, GUESTS, TURNED, TURNED_BOOK, all_facts, crowd, sample_houses, some_stories
from tests.helpers_notes import NoteCase, first_wrong, is_house_line, is_house_note, read_fact

TWO = House([ADA, BOB])
TWO_NOTE = "house ada bob\ntaste ada 2 1\ntaste bob 2 1\n"
KINDS = (
    (("wore", ADA, BOB), "wore ada bob"),
    (("spared", BOB, BOB), "spared bob bob"),
    (("before", ("in", ADA), ("out", BOB)), "before in:ada out:bob"),
    (("hung", ("out", ADA), 1, (BOB, CLEO)), "hung out:ada 1 bob cleo"),
    (("bare", ("in", CLEO), 0, ()), "bare in:cleo 0"),
    (("there", ("in", BOB), 40, (CLEO, ADA, BOB)), "there in:bob 40 cleo ada bob"),
    (("away", ("out", BOB), 2, (BOB,)), "away out:bob 2 bob"),
    (("after", ("out", ADA), 0, ()), "after out:ada 0"),
    (("ahead", ("in", ADA), 3, (("out", ADA), ("in", BOB))), "ahead in:ada 3 out:ada in:bob"),
    (("chose", CLEO, 10), "chose cleo 10"),
    (("settled", ADA, 0), "settled ada 0"),
)


def line_of(text):
    """The index of the first line that is not right, read off points 102 to 104."""
    def is_right(ahead, line):
        houses = [at for at in range(len(ahead)) if ahead[at].split(" ")[0] == "book" and is_house_note(ahead[:at])]
        if houses:
            return read_fact(House(ahead[0].split(" ")[1:]), line) is not None
        if is_house_line(ahead, line):
            return True
        return is_house_note(ahead) and line.split(" ")[0] == "book" and sorted(line.split(" ")[1:]) == sorted(ahead[0].split(" ")[1:])

    def is_whole(lines):
        return any(line.split(" ")[0] == "book" for line in lines)

    return first_wrong(text, is_right, is_whole)


class StoryNotes(NoteCase):
    def written(self, story, note):
        """The story is written as this note, and read from it."""
        self.same(format_story(story), note)
        found = parse_story(note)
        self.assertEqual(found, story)
        self.same((found.book, found.facts), (story.book, story.facts))

    def test_every_kind_of_fact(self):
        story = Story(House(GUESTS), (CLEO, ADA, BOB), [fact for fact, _ in KINDS])
        head = "house ada bob cleo\ntaste ada 3 2 1\ntaste bob 3 2 1\ntaste cleo 3 2 1\nbook cleo ada bob\n"
        self.written(story, head + "".join([line + "\n" for _, line in KINDS]))
        for fact, line in KINDS:
            self.written(Story(House(GUESTS), GUESTS, [fact, fact]), head.replace("book cleo ada bob", "book ada bob cleo") + f"{line}\n{line}\n")

    def test_without_facts(self):
        self.written(Story(TWO, [BOB, ADA]), TWO_NOTE + "book bob ada\n")
        self.written(Story(House([ADA], pegs=1).choosing(ADA, 3), [ADA]), "house ada\npegs 1\ntaste ada 1\ndepth ada 3\nbook ada\n")

    def test_what_was_written_is_read(self):
        for story, _ in some_stories(6):
            self.written(story, format_story(story))
        for house, book in sample_houses():
            facts = all_facts(house)[::9]
            story = Story(house, book, facts[:40])
            self.written(story, format_story(story))
        story = Story(crowd(12), crowd(12).guests[::-1], [("hung", ("out", "g11"), 3, ("g3", "g10")), ("wore", "g0", "g11")])
        self.written(story, format_story(story))

    def test_guests_that_are_called_like_words_of_notes(self):
        house = House(["in", "out", "book", "wore", "before", "depth"], pegs=2).choosing("book", 2)
        facts = [("wore", "wore", "book"), ("before", ("in", "out"), ("out", "in")), ("hung", ("in", "in"), 2, ("in", "out")),
                 ("there", ("out", "in"), 1, ("out", "in")), ("after", ("in", "in"), 1, (("in", "out"), ("out", "in"))),
                 ("bare", ("out", "out"), 1, ("in", "book")), ("ahead", ("in", "out"), 2, (("out", "out"), ("in", "in"))),
                 ("chose", "depth", 4), ("away", ("in", "book"), 0, ("in", "wore"))]
        story = Story(house, house.guests[::-1], facts)
        note = format_story(story)
        self.written(story, note)
        self.same(note.split("\n")[9:13], ["book depth before wore book out in", "wore wore book", "before in:out out:in", "hung in:in 2 in out"])

    def test_lists(self):
        story = Story(TWO, [BOB, ADA], [["ahead", ["in", ADA], 3, [["out", ADA], ["in", BOB]]]])
        self.same(format_story(story), TWO_NOTE + "book bob ada\nahead in:ada 3 out:ada in:bob\n")

    def test_lines_that_are_missing(self):
        self.not_read(0, parse_story, "")
        self.not_read(1, parse_story, "house ada bob\n")
        self.not_read(3, parse_story, TWO_NOTE)
        self.not_read(4, parse_story, TWO_NOTE + "depth bob 2\n")
        self.not_read(3, parse_story, TWO_NOTE + "book bob ada")
        self.not_read(4, parse_story, TWO_NOTE + "book bob ada\nwore ada bob")
        self.not_read(4, parse_story, TWO_NOTE + "book bob ada\n\n")

    def test_wrong_books(self):
        for book in ("ada", "ada ada", "ada bob bob", "ada zoe", "", "ada  bob", " ada bob", "bob ada "):
            self.not_read(3, parse_story, TWO_NOTE + f"book {book}\n")
        self.not_read(3, parse_story, TWO_NOTE + "book\n")
        # Lines of the house behind the book; two books.
        self.not_read(4, parse_story, TWO_NOTE + "book ada bob\ndepth ada 2\n")
        self.not_read(4, parse_story, TWO_NOTE + "book ada bob\nbook ada bob\n")
        self.not_read(3, parse_story, TWO_NOTE + "wore ada bob\n")

    def test_wrong_facts(self):
        note = TWO_NOTE + "book ada bob\n"
        for line in (
            "wore ada", "wore ada zoe", "wore zoe ada", "wore ada bob bob", "wear ada bob", "wore  ada bob", "wore in:ada bob",
            "before in:ada in:ada", "before in:ada", "before in:ada out:bob 1", "before ada bob", "before in:ada out:zoe",
            "before in:ada on:bob", "before in: out:bob", "before in:ada: out:bob", "before in:ada out:bob ",
            "hung out:ada 1 bob bob", "hung out:ada 1 zoe", "hung out:ada bob", "hung out:ada", "hung ada 1 bob", "hung out:ada -1 bob",
            "hung out:ada 01 bob", "hung out:ada +1 bob", "hung out:ada -0 bob", "hung out:ada 1 out:bob", "hung out:ada 1  bob", "hung 1 bob",
            # An event among its own events.
            "after out:ada 1 out:ada", "after out:ada 1 in:bob out:ada", "after out:ada 1 in:bob in:bob", "ahead in:ada 1 ada", "ahead in:ada x",
            "chose ada", "chose ada 1 1", "chose ada -1", "chose zoe 1", "chose out:ada 1", "settled ada 00", "settled ada one", "chose 1 ada",
            "tell ada 1", "", " ", "1", "ada",
        ):
            self.not_read(4, parse_story, note + line + "\n")
            self.not_read(5, parse_story, note + "wore ada bob\n" + line + "\n" + "wore ada ada\n")

    def test_spoiled_notes(self):
        draw = Random(104)
        read, refused = 0, 0
        stories = [Story(TWO.with_pegs(1).choosing(BOB, 2), [BOB, ADA], [("ahead", ("in", ADA), 3, (("out", ADA), ("in", BOB))), ("chose", ADA, 10)]),
                   Story(TURNED, TURNED_BOOK, [("hung", ("out", ADA), 1, (BOB, CLEO)), ("before", ("in", ADA), ("out", BOB))]),
                   Story(House(["in", "out"]), ["in", "out"], [("there", ("in", "in"), 1, ("in", "out")), ("after", ("in", "in"), 0, (("in", "out"),))])]
        for house, book in sample_houses()[2:5]:
            stories.append(Story(house, book, [draw.choice(all_facts(house)) for _ in range(3)]))
        for story in stories:
            one, two = self.spoil(format_story(story), parse_story, format_story, line_of, 2)
            read, refused = read + one, refused + two
        self.assertGreater(read, 80)
        self.assertGreater(refused, 2000)
