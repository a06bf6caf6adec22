"""Points 102 and 103: notes of houses."""

from leavetaking.housenotes import format_house, parse_house
from leavetaking.houses import House

from tests.helpers import ADA, BOB, CLEO, GUESTS, TURNED, crowd, sample_houses
from tests.helpers_notes import NoteCase, first_wrong, is_house_line, is_house_note

GREAT = int("1" * 40)
FULL = House(GUESTS, worth=[-3, 0, 12], brings=[BOB, ADA, CLEO], pegs=2).choosing(CLEO, 4).choosing(ADA, 2)
FULL_NOTE = ("house ada bob cleo\npegs 2\nbrings bob ada cleo\ntaste ada -3 0 12\ntaste bob -3 0 12\ntaste cleo -3 0 12\n"
             "depth ada 2\ndepth cleo 4\n")
# Guests that are called like the words of notes.
WORDS = House(["house", "taste", "depth", "pegs", "brings", "in"], pegs=7).choosing("taste", 3).choosing("depth", 2)


def line_of(text):
    """The index of the first line that is not right, read off points 102 and 103."""
    return first_wrong(text, is_house_line, is_house_note)


class HouseNotes(NoteCase):
    def written(self, house, note):
        """The house is written as this note, and read from it."""
        self.same(format_house(house), note)
        found = parse_house(note)
        self.assertEqual(found, house)
        self.same((found.guests, found.brings, found.pegs), (house.guests, house.brings, house.pegs))
        self.same([(found.taste(guest), found.depth(guest)) for guest in found],
                  [(house.taste(guest), house.depth(guest)) for guest in house])

    def test_lines_that_must_stand_there(self):
        self.written(House([ADA]), "house ada\ntaste ada 1\n")
        self.written(House([ADA], pegs=1), "house ada\npegs 1\ntaste ada 1\n")
        self.written(House([ADA]).choosing(ADA, 2), "house ada\ntaste ada 1\ndepth ada 2\n")
        self.written(House([BOB, ADA], brings=[ADA, BOB]), "house bob ada\nbrings ada bob\ntaste bob 2 1\ntaste ada 2 1\n")
        # Each brings its own, so there is no line.
        self.written(House([BOB, ADA], brings=[BOB, ADA]), "house bob ada\ntaste bob 2 1\ntaste ada 2 1\n")
        self.written(House([BOB, ADA]).choosing(BOB, 9).choosing(BOB, 1), "house bob ada\ntaste bob 2 1\ntaste ada 2 1\n")
        self.written(FULL, FULL_NOTE)
        self.written(House([ADA], worth=[-GREAT], pegs=GREAT).choosing(ADA, GREAT),
                     f"house ada\npegs {GREAT}\ntaste ada -{GREAT}\ndepth ada {GREAT}\n")

    def test_what_was_written_is_read(self):
        for house, _ in sample_houses() + [(WORDS, None), (crowd(12), None), (TURNED.with_pegs(12), None)]:
            self.written(house, format_house(house))

    def test_names_that_are_words_of_notes(self):
        note = format_house(WORDS)
        self.same(note.split("\n")[0], "house house taste depth pegs brings in")
        self.same(note.split("\n")[1], "pegs 7")
        self.same(note.split("\n")[-3:], ["depth taste 3", "depth depth 2", ""])
        self.written(WORDS.bringing(WORDS.guests[::-1]), format_house(WORDS.bringing(WORDS.guests[::-1])))
        # Only the first word tells which line it is.
        self.not_read(1, parse_house, "house house\nhouse taste 1\n")
        self.not_read(2, parse_house, "house taste\ntaste taste 1\ntaste taste 1\n")

    def test_one_and_twelve_guests(self):
        note = format_house(crowd(12).choosing("g11", 5))
        self.same(len(note.split("\n")), 15)
        self.written(crowd(12).choosing("g11", 5), note)

    def test_the_empty_string_and_lines_that_are_missing(self):
        self.not_read(0, parse_house, "")
        self.not_read(0, parse_house, "\n")
        lines = FULL_NOTE.split("\n")[:-1]
        for many in range(len(lines)):
            text = "".join([line + "\n" for line in lines[:many]])
            if many < 6:
                self.not_read(many, parse_house, text)
            else:
                self.assertEqual(format_house(parse_house(text)), text)
            # The last line is there, but it does not end.
            self.not_read(many, parse_house, text + lines[many])
            self.not_read(many, parse_house, text + lines[many][:1])
        self.not_read(8, parse_house, FULL_NOTE + " ")
        self.not_read(8, parse_house, FULL_NOTE + "\n")

    def test_lines_where_they_must_not_stand(self):
        # brings of a house where each guest brings its own; depth 1; both are not written.
        self.not_read(1, parse_house, "house bob ada\nbrings bob ada\ntaste bob 2 1\ntaste ada 2 1\n")
        self.not_read(1, parse_house, "house ada\nbrings ada\ntaste ada 1\n")
        for depth in ("1", "0", "-2", "02", "+2", "2.0", "two", "", "ada"):
            self.not_read(2, parse_house, f"house ada\ntaste ada 1\ndepth ada {depth}\n")
        for pegs in ("0", "-1", "01", "+1", "", "-0", "none", "1 1"):
            self.not_read(1, parse_house, f"house ada\npegs {pegs}\ntaste ada 1\n")
        self.not_read(2, parse_house, "house bob ada\nbrings ada bob\npegs 1\ntaste bob 2 1\ntaste ada 2 1\n")
        self.not_read(2, parse_house, "house ada\npegs 1\npegs 1\ntaste ada 1\n")
        self.not_read(4, parse_house, "house bob ada\ntaste bob 2 1\ntaste ada 2 1\ndepth ada 2\ndepth bob 2\n")
        self.not_read(4, parse_house, "house bob ada\ntaste bob 2 1\ntaste ada 2 1\ndepth ada 2\ndepth ada 2\n")
        self.not_read(2, parse_house, "house bob ada\ntaste bob 2 1\ndepth bob 2\ntaste ada 2 1\n")
        self.not_read(1, parse_house, "house bob ada\ntaste ada 2 1\ntaste bob 2 1\n")
        self.not_read(2, parse_house, "house ada\ntaste ada 1\nbook ada\n")

    def test_guests_twice_or_strange(self):
        for guests in ("ada ada", "ada Bob", "ada 1b", "ada b_b", "ada ninechars", "", "ada  bob", " ada", "ada ", "a:b", "a-b"):
            self.not_read(0, parse_house, f"house {guests}\n")
        self.not_read(0, parse_house, "house\n")
        self.not_read(0, parse_house, "House ada\n")
        for cloaks in ("ada ada", "ada bob", "zoe ada", "bob", "bob ada ada", "", "bob  ada", "bob ada "):
            self.not_read(1, parse_house, f"house ada bob\nbrings {cloaks}\n")
        for taste in ("bob 2 1", "zoe 2 1", "ada 2", "ada 2 1 0", "ada 2 -0", "ada +2 1", "ada 02 1", "ada 2  1", "ada two 1", "ada 2 1 ", "ada"):
            self.not_read(1, parse_house, f"house ada bob\ntaste {taste}\n")

    def test_a_wrong_line_is_told_ahead_of_what_is_missing(self):
        self.not_read(1, parse_house, "house ada bob\ntaste ada x 1\nnothing\n")
        self.not_read(2, parse_house, "house ada bob\ntaste ada 2 1\nnothing\ntaste bob 2 1")

    def test_spoiled_notes(self):
        read, refused = 0, 0
        small = House([ADA, BOB], brings=[BOB, ADA], pegs=2).choosing(BOB, 3).choosing(ADA, 12).liking(ADA, [0, -5])
        for house, step in ((small, 1), (House(["house", "taste"], pegs=10).choosing("house", 20), 1), (FULL, 2), (House([ADA]), 1)):
            one, two = self.spoil(format_house(house), parse_house, format_house, line_of, step)
            read, refused = read + one, refused + two
        self.assertGreater(read, 80)
        self.assertGreater(refused, 1500)
