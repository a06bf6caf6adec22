"""Points 102 and 105: notes of evenings."""

from leavetaking.eveningnotes import format_evening, parse_evening
from leavetaking.evenings import evenings
from leavetaking.houses import House

from tests.helpers import ADA, BOB, CLEO, GUESTS, TURNED, TURNED_EVENING, crowd, listed, permuted_books, sample_houses
from tests.helpers_notes import NoteCase, first_wrong

TWO = House([ADA, BOB])
NOTE = "in ada\nin bob\nout bob ada\nout ada bob\n"


def lines_of(house):
    """The lines of all evenings of all books of the house."""
    return {tuple([" ".join(step) for step in evening]) for book in permuted_books(house) for evening in evenings(house, book)}


def line_of(house):
    """Tells the index of the first line that is not right, by all evenings of the house."""
    every = lines_of(house)
    beginnings = {lines[:many] for lines in every for many in range(len(lines) + 1)}
    return lambda text: first_wrong(text, lambda ahead, line: tuple(ahead + [line]) in beginnings, lambda lines: tuple(lines) in every)


class EveningNotes(NoteCase):
    def test_notes(self):
        evening = (("in", ADA), ("in", BOB), ("out", BOB, ADA), ("out", ADA, BOB))
        self.same(format_evening(evening), NOTE)
        self.same(format_evening(listed(evening)), NOTE)
        self.same(parse_evening(TWO, NOTE), evening)
        self.same(format_evening(()), "")

    def test_evenings_of_all_books(self):
        for house, _ in sample_houses():
            for book in permuted_books(house):
                for evening in evenings(house, book):
                    self.same(parse_evening(house, format_evening(evening)), evening)
        self.same(parse_evening(TURNED, format_evening(TURNED_EVENING)), TURNED_EVENING)

    def test_steps_that_are_not_let(self):
        for line in ("in ada", "out bob bob", "out ada bob", "out cleo ada", "in zoe", "out zoe ada", "out ada zoe", "in", "out",
                     "out ada", "in bob bob", "In bob", "in  bob", "in bob ", " in bob", "", "out ada ada ada", "in:bob"):
            self.not_read(1, parse_evening, TWO, "in ada\n" + line + "\n")
        for line in ("out ada ada", "in zoe", "", "ada"):
            self.not_read(0, parse_evening, TWO, line + "\n" + NOTE)

    def test_no_more_lines_after_the_last_leaving(self):
        for line in ("in ada", "out ada ada", "", " ", "in zoe"):
            self.not_read(4, parse_evening, TWO, NOTE + line + "\n")
        self.not_read(4, parse_evening, TWO, NOTE + "in")
        self.not_read(4, parse_evening, TWO, NOTE + NOTE)

    def test_lines_that_are_missing(self):
        lines = NOTE.split("\n")[:-1]
        for many in range(4):
            self.not_read(many, parse_evening, TWO, "".join([line + "\n" for line in lines[:many]]))
            self.not_read(many, parse_evening, TWO, "\n".join(lines[:many + 1]))
        self.not_read(0, parse_evening, TWO, "")

    def test_pegs_and_depths(self):
        self.not_read(1, parse_evening, TWO.with_pegs(1), NOTE)
        early = "in bob\nout bob bob\nin ada\nout ada ada\n"
        self.same(len(parse_evening(TWO.with_pegs(1), early)), 4)
        deep = "in ada\nin bob\nout bob bob\nout ada ada\n"
        self.not_read(2, parse_evening, TWO, deep)
        self.not_read(2, parse_evening, TWO.choosing(ADA, 2), deep)
        self.same(len(parse_evening(TWO.choosing(BOB, 2), deep)), 4)
        # ada brings the cloak of bob.
        turned = TWO.bringing([BOB, ADA])
        self.same(parse_evening(turned, "in ada\nout ada bob\nin bob\nout bob ada\n")[1], ("out", ADA, BOB))
        self.not_read(1, parse_evening, turned, "in ada\nout ada ada\n")

    def test_many_guests(self):
        house = crowd(30)
        evening = next(evenings(house, house.guests[::-1]))
        self.same(parse_evening(house, format_evening(evening)), evening)

    def test_guests_that_are_called_in_and_out(self):
        house = House(["out", "in"])
        note = "in in\nin out\nout in out\nout out in\n"
        self.same(parse_evening(house, note), (("in", "in"), ("in", "out"), ("out", "in", "out"), ("out", "out", "in")))
        self.not_read(3, parse_evening, house, "in in\nin out\nout in out\nout in in\n")

    def test_spoiled_notes(self):
        read, refused = 0, 0
        for house in (TWO, TWO.with_pegs(1), House(["out", "in"]).choosing("in", 2), House([ADA]), House(GUESTS, pegs=2).choosing(CLEO, 2), TURNED):
            line_for = line_of(house)
            notes = sorted(["".join([line + "\n" for line in lines]) for lines in lines_of(house)])
            for note in notes[::13]:
                one, two = self.spoil(note, lambda text: parse_evening(house, text), format_evening, line_for, 1, "in \n")
                read, refused = read + one, refused + two
        self.assertGreater(read, 20)
        self.assertGreater(refused, 1500)
