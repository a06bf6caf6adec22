"""Points 80 to 82: games, positions and options."""

from random import Random

from leavetaking.claims import Claim
from leavetaking.errors import BadBook, BadFact, NotLet, UnknownGuest
from leavetaking.games import Game, next_position, options, start_position
from leavetaking.houses import House
from leavetaking.standings import START

from tests.helpers import ADA, BOB, CLEO, GUESTS, PromiseCase, all_facts, listed, some_claim
from tests.helpers_odds import PlainPlay, game_houses

HOUSE = House(GUESTS)
BOOK = (BOB, ADA, CLEO)
CLAIM = Claim.of(("wore", ADA, ADA)) & Claim.of(("before", ("out", BOB), ("in", ADA)))
GAME = Game(HOUSE, BOOK, [ADA, CLEO], CLAIM)
LONE = Game(House([ADA]), [ADA], [], Claim.of(("wore", ADA, ADA)))


def played(game, *choices):
    """The position behind these choices."""
    position = start_position(game)
    for choice in choices:
        position = next_position(game, position, choice)
    return position


def marks_of(house, book, fact, *steps):
    """The mark of the fact ahead of these steps, made by the foe, and behind each of them."""
    game = Game(house, book, [], Claim.of(fact))
    position, found = start_position(game), []
    for step in steps:
        found.append(position[1][0])
        position = next_position(game, next_position(game, position, None), step)
    return found + [position[1][0]]


class Games(PromiseCase):
    def test_fields(self):
        self.same((GAME.book, GAME.host), (BOOK, (ADA, CLEO)))
        self.assertEqual((GAME.house, GAME.claim), (HOUSE, CLAIM))
        self.same(Game(HOUSE, list(BOOK), [CLEO, ADA], CLAIM).host, (ADA, CLEO))
        self.same(Game(HOUSE, BOOK, (CLEO, ADA, BOB), CLAIM).host, GUESTS)
        self.same(Game(HOUSE, BOOK, [], CLAIM).host, ())

    def test_errors_in_their_order(self):
        wrong = Claim.of(("wore", ADA, ADA)) | Claim.of(("chose", "zoe", 1))
        for book in ([ADA], [ADA, BOB, BOB], ()):
            self.refused(BadBook, Game, HOUSE, book, ["zoe"], wrong)
        self.same(self.refused(UnknownGuest, Game, HOUSE, BOOK, [CLEO, "zoe", "yan"], wrong).name, "zoe")
        self.same(self.refused(UnknownGuest, Game, HOUSE, BOOK, ["", ADA], CLAIM).name, "")
        self.same(self.refused(BadFact, Game, HOUSE, BOOK, [CLEO], wrong).fact, ("chose", "zoe", 1))

    def test_arguments_are_copied(self):
        book, host = list(BOOK), [CLEO, BOB]
        game = Game(HOUSE, book, host, CLAIM)
        book.clear()
        host.clear()
        self.same((game.book, game.host), (BOOK, (BOB, CLEO)))


class Positions(PromiseCase):
    def test_the_first_position(self):
        self.same(start_position(GAME), (START, (None, None), "host"))
        self.same(start_position(LONE), (START, (None,), "host"))
        # Facts of the claim that are told twice have one mark.
        self.same(start_position(Game(HOUSE, BOOK, [], CLAIM | CLAIM))[1], (None, None))

    def test_who_may_pass(self):
        self.same(options(GAME, start_position(GAME)), (None,))
        foe = next_position(GAME, start_position(GAME), None)
        self.same(foe, (START, (None, None), "foe"))
        self.same(options(GAME, foe), (("in", BOB),))
        come = next_position(GAME, foe, ("in", BOB))
        self.same(come, ((1, ()), (None, None), "host"))
        self.same(options(GAME, come), (None,))
        self.same(options(GAME, next_position(GAME, come, None)), (("in", ADA), ("out", BOB, BOB)))
        both = played(GAME, None, ("in", BOB), None, ("in", ADA))
        self.same(options(GAME, both), (("out", ADA, ADA), None))
        left = next_position(GAME, both, ["out", ADA, ADA])
        # The host has the turn again, but it may do nothing else than pass.
        self.same(left, ((2, ((ADA, ADA),)), (True, False), "host"))
        self.same(options(GAME, left), (None,))

    def test_no_passing_without_a_step_of_the_foe(self):
        all_hosts = Game(HOUSE, BOOK, GUESTS, CLAIM)
        position = played(all_hosts, None, ("in", BOB), None, ("in", ADA), None, ("in", CLEO))
        self.same(options(all_hosts, position), (("out", ADA, ADA), ("out", BOB, ADA), ("out", CLEO, ADA)))
        self.same(self.refused(NotLet, next_position, all_hosts, position, None).step, None)
        # With one peg, nobody can come.
        pegged = Game(HOUSE.with_pegs(1), BOOK, [BOB], CLAIM)
        position = played(pegged, None, ("in", BOB))
        self.same(options(pegged, position), (("out", BOB, BOB),))
        self.same(options(pegged, next_position(pegged, position, ("out", BOB, BOB))), (None,))

    def test_the_end(self):
        end = played(LONE, None, ("in", ADA), None, ("out", ADA, ADA))
        self.same(end, ((1, ((ADA, ADA),)), (True,), "host"))
        self.same(options(LONE, end), ())
        for choice in (None, ("in", ADA), ("out", ADA, ADA), ("in", "zoe"), ("out", "zoe", "yan")):
            self.same(self.refused(NotLet, next_position, LONE, end, choice).step, choice)

    def test_what_is_no_option(self):
        both = played(GAME, None, ("in", BOB), None, ("in", ADA))
        for choice in (("in", CLEO), ("out", BOB, ADA), ("out", ADA, BOB), ("out", CLEO, ADA), ("in", "zoe"),
                       ("out", "zoe", ADA), ("out", ADA, "zoe"), ("out", "", "")):
            self.same(self.refused(NotLet, next_position, GAME, both, listed(choice)).step, choice)
        foe = next_position(GAME, both, None)
        for choice in (None, ("out", ADA, ADA), ("in", BOB), ("out", BOB, BOB)):
            self.same(self.refused(NotLet, next_position, GAME, listed(foe), listed(choice)).step, choice)
        self.same(next_position(GAME, listed(foe), ["out", BOB, ADA]), ((2, ((BOB, ADA),)), (None, False), "host"))

    def test_marks_of_before(self):
        steps = (("in", ADA), ("in", BOB), ("out", BOB, ADA), ("out", ADA, BOB))
        house, book = House([ADA, BOB]), (ADA, BOB)
        self.same(marks_of(house, book, ("before", ("in", BOB), ("out", BOB)), *steps), [None, None, True, True, True])
        self.same(marks_of(house, book, ("before", ("out", BOB), ("in", BOB)), *steps), [None, None, False, False, False])
        self.same(marks_of(house, book, ("before", ("out", ADA), ("out", BOB)), *steps), [None, None, None, False, False])
        self.same(marks_of(house, book, ("before", ("in", ADA), ("out", ADA)), *steps), [None, True, True, True, True])

    def test_marks_of_the_other_facts(self):
        steps = (("in", ADA), ("in", BOB), ("out", BOB, ADA), ("out", ADA, BOB))
        house, book = House([ADA, BOB]), (ADA, BOB)
        for due, fact, other in (
            ([None, None, None, True, True], ("wore", BOB, ADA), ("spared", BOB, ADA)),
            ([None, None, None, None, False], ("wore", ADA, ADA), ("spared", ADA, ADA)),
            ([None, None, True, True, True], ("hung", ("in", BOB), 1, (ADA,)), ("bare", ("in", BOB), 1, (ADA,))),
            ([None, None, None, True, True], ("there", ("out", BOB), 2, (ADA, BOB)), ("away", ("out", BOB), 2, (ADA, BOB))),
            ([None, False, False, False, False], ("after", ("in", ADA), 1, (("in", BOB),)), ("ahead", ("in", ADA), 1, (("in", BOB),))),
            ([None, None, None, None, True], ("chose", ADA, 1), ("settled", ADA, 1)),
        ):
            self.same(marks_of(house, book, fact, *steps), due)
            self.same(marks_of(house, book, other, *steps), [None if mark is None else not mark for mark in due])

    def test_all_positions_of_small_games(self):
        draw = Random(80)
        positions = 0
        for house, book in game_houses():
            facts = all_facts(house)
            for _ in range(6):
                claim = some_claim(draw, facts)
                game = Game(house, book, [guest for guest in house if draw.choice((True, False))], claim)
                play, position = PlainPlay(game, (), "host"), start_position(game)
                while play.choices():
                    self.same(position, play.position())
                    self.same(options(game, position), tuple(play.choices()))
                    choice = draw.choice(play.choices())
                    play, position = play.after(choice), next_position(game, position, choice)
                    positions += 1
                self.same(position, play.position())
                self.same(options(game, position), ())
        self.assertGreater(positions, 300)
