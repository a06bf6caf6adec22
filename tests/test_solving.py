"""Points 83 and 84: who wins a game, and tables that are judged."""

from random import Random

from leavetaking.claims import Claim
from leavetaking.errors import BadBook, BadFact
from leavetaking.games import Game, next_position, options, start_position
from leavetaking.houses import House
from leavetaking.solving import is_foe_table, is_host_table, least_host, solve

from tests.helpers import ADA, BOB, CLEO, GUESTS, PromiseCase, all_facts, crowd, listed, lots_from, some_claim, within
from tests.helpers_odds import PlainPlay, game_houses, plain_outcome

HOUSE = House(GUESTS)
BOOK = (BOB, ADA, CLEO)
# The host can see to it that ada leaves in its own cloak only if it also keeps bob from taking it.
OWN = Claim.of(("wore", ADA, ADA))
LATE = Claim.of(("before", ("in", CLEO), ("out", BOB)))


def some_games(count):
    """So many games for each of some small houses, in a fixed disorder."""
    draw = Random(83)
    for house, book in game_houses():
        facts = all_facts(house)
        for _ in range(count):
            host = [guest for guest in house if draw.choice((True, False))]
            yield Game(house, book, host, some_claim(draw, facts))


def plain_wins(game, table, side):
    """Whether the side wins each play in which it chooses by the table: all plays are gone through."""
    plays = [PlainPlay(game, (), "host")]
    for play in plays:
        choices = play.choices()
        if not choices:
            if play.is_hosts({}) != (side == "host"):
                return False
        elif play.turn == side:
            found = [choice for position, choice in table if position == play.position()]
            if not found or found[0] not in choices:
                return False
            choices = found[:1]
        plays.extend([play.after(choice) for choice in choices])
    return True


class Outcomes(PromiseCase):
    def test_the_order_of_the_table(self):
        outcome = solve(Game(HOUSE, BOOK, [BOB], LATE))
        self.same(outcome.winner, "host")
        self.same(outcome.table[0], (((0, ()), (None,), "host"), None))
        self.same(outcome.table[1], (((1, ()), (None,), "host"), None))
        self.same([choice for _, choice in outcome.table[:3]], [None, None, None])
        outcome = solve(Game(HOUSE, BOOK, [], LATE))
        self.same(outcome.winner, "foe")
        self.same(outcome.table[:2], ((((0, ()), (None,), "foe"), ("in", BOB)), (((1, ()), (None,), "foe"), ("in", ADA))))

    def test_no_host_and_all_guests_as_host(self):
        # The host may keep everybody in the room, but it can not keep anybody from coming.
        for claim, least in ((LATE, (BOB,)), (OWN, (ADA, BOB)), (~LATE, (BOB,)), (Claim.of(("spared", BOB, CLEO)), None)):
            winners = {lot: solve(Game(HOUSE, BOOK, lot, claim)).winner for lot in lots_from(GUESTS)}
            for lot, winner in winners.items():
                self.assertEqual(winner, plain_outcome(Game(HOUSE, BOOK, lot, claim))[0], (claim.form, lot))
        self.same(solve(Game(HOUSE, BOOK, [], Claim.of(("wore", "ada", "ada")) | ~OWN)).winner, "host")

    def test_all_plays_of_small_houses(self):
        winners = []
        for game in some_games(8):
            winner, table = plain_outcome(game)
            outcome = solve(game)
            self.same(outcome.winner, winner)
            self.same(outcome.table, table)
            winners.append((winner, len(table) > 8))
        self.assertEqual(len(set(winners)), 4)

    def test_four_guests(self):
        house = crowd(4)
        for guest in house.guests:
            house = house.choosing(guest, 4)
        parts = [Claim.of(("ahead", ("out", guest), 2, [("out", other) for other in house if other != guest]))
                 | Claim.of(("spared", guest, guest)) for guest in house]
        with within(60):
            for claim in (Claim.every(parts), ~Claim.every(parts), Claim.some(parts)):
                for host in ([], ["g2"], ["g1", "g3"], house.guests):
                    game = Game(house, house.guests[::-1], host, claim)
                    outcome = solve(game)
                    self.assertIs(is_host_table(game, outcome.table), outcome.winner == "host")
                    self.assertIs(is_foe_table(game, outcome.table), outcome.winner == "foe")


class Tables(PromiseCase):
    def judge(self, game):
        """The function that judges tables for the winner, and the one for the other side."""
        winner = solve(game).winner
        return (is_host_table, is_foe_table) if winner == "host" else (is_foe_table, is_host_table)

    def test_the_table_of_the_outcome(self):
        for game in some_games(6):
            right, wrong = self.judge(game)
            table = solve(game).table
            self.assertIs(right(game, table), True)
            self.assertIs(right(game, listed(table[::-1])), True)
            self.assertIs(wrong(game, table), False)
            self.assertIs(wrong(game, ()), self.nothing_is_due(game, wrong))
            if table:
                for at in range(len(table)):
                    self.assertIs(right(game, table[:at] + table[at + 1:]), False)

    def nothing_is_due(self, game, judge):
        """Whether an empty table is enough: the side never has the turn, or only at the end."""
        return plain_wins(game, (), "host" if judge == is_host_table else "foe")

    def test_a_pair_twice(self):
        game = Game(HOUSE, BOOK, [BOB], LATE)
        table = solve(game).table
        position = ((1, ()), (None,), "host")
        self.same(dict(table)[position], None)
        bad = (position, ("out", BOB, BOB))
        self.same([is_host_table(game, table + (bad,)), is_host_table(game, (bad,) + table)], [True, False])
        self.same(is_host_table(game, table + table), True)
        # A choice that is no option, first or behind a good one.
        for choice in (("out", CLEO, CLEO), ("in", BOB), ("out", "zoe", BOB)):
            strange = (position, choice)
            self.same([is_host_table(game, table + (strange,)), is_host_table(game, (strange,) + table)], [True, False])

    def test_pairs_that_do_not_matter(self):
        game = Game(HOUSE, BOOK, [BOB], LATE)
        table = solve(game).table
        left = next_position(game, ((1, ()), (None,), "host"), ("out", BOB, BOB))
        foe = next_position(game, start_position(game), None)
        others = ((left, ("out", ADA, ADA)), (foe, ("in", CLEO)), (foe, None))
        self.same(is_host_table(game, others + table), True)
        # For the foe nothing is in this table.
        self.same(is_foe_table(game, others + table), False)

    def test_wrong_choices(self):
        draw = Random(84)
        verdicts = []
        for game in some_games(4):
            side = solve(game).winner
            judge, _ = self.judge(game)
            table = list(solve(game).table)
            for _ in range(6):
                if not table:
                    break
                at = draw.randrange(len(table))
                changed = list(table)
                changed[at] = (table[at][0], draw.choice(options(game, table[at][0]) + (("in", "zoe"),)))
                verdicts.append(plain_wins(game, changed, side))
                self.assertIs(judge(game, changed), verdicts[-1])
        self.assertGreater(verdicts.count(False), 20)
        self.assertGreater(verdicts.count(True), 20)

    def test_tables_with_all_positions(self):
        # Nothing is missing in them: whoever loses by them loses at the end of a play.
        draw = Random(86)
        verdicts = []
        for game in some_games(3):
            for side, judge in (("host", is_host_table), ("foe", is_foe_table)):
                table, plays = {}, [PlainPlay(game, (), "host")]
                for play in plays:
                    choices = play.choices()
                    if choices and play.turn == side:
                        table.setdefault(play.position(), draw.choice(choices))
                        choices = [table[play.position()]]
                    plays.extend([play.after(choice) for choice in choices])
                verdicts.append(plain_wins(game, list(table.items()), side))
                self.assertIs(judge(game, list(table.items())), verdicts[-1])
        self.assertGreater(min(verdicts.count(True), verdicts.count(False)), 10)

    def test_other_tables_that_win(self):
        # The last option that leads to a won position does as well as the first one.
        for game in some_games(2):
            known, side = {}, solve(game).winner
            judge, _ = self.judge(game)
            table, plays = [], [PlainPlay(game, (), "host")]
            for play in plays:
                choices = play.choices()
                if choices and play.turn == side:
                    choices = [choice for choice in choices if play.after(choice).is_hosts(known) == (side == "host")][-1:]
                    table.append((play.position(), choices[0]))
                plays.extend([play.after(choice) for choice in choices])
            self.assertIs(judge(game, table), True)


class LeastHost(PromiseCase):
    def test_all_plays_of_small_houses(self):
        draw = Random(85)
        sizes = set()
        for house, book in game_houses():
            facts = all_facts(house)
            for _ in range(4):
                claim = some_claim(draw, facts)
                wins = [lot for lot in lots_from(house.guests)
                        if PlainPlay(Game(house, book, lot, claim), (), "host").is_hosts({})]
                found = least_host(house, listed(book), claim)
                self.same(found, wins[0] if wins else None)
                sizes.add(None if found is None else len(found))
                # With more guests the host also wins.
                for lot in wins:
                    for guest in house:
                        more = tuple([other for other in house if other in lot or other == guest])
                        self.assertIn(more, wins)
        self.assertLessEqual({None, 0, 1}, sizes)

    def test_the_first_one_of_the_smallest_lots(self):
        stays = {guest: Claim.of(("before", ("in", CLEO), ("out", guest))) for guest in (ADA, BOB)}
        self.same(least_host(HOUSE, BOOK, stays[ADA] & stays[BOB]), (ADA, BOB))
        self.same(least_host(HOUSE, BOOK, stays[BOB]), (BOB,))
        # Each of two guests would be enough alone.
        self.same(least_host(HOUSE, BOOK, stays[ADA] | stays[BOB]), (ADA,))
        self.same(least_host(House((CLEO, BOB, ADA)), BOOK, stays[ADA] | stays[BOB]), (BOB,))

    def test_none(self):
        self.assertIsNone(least_host(HOUSE, BOOK, Claim.of(("before", ("in", CLEO), ("in", BOB)))))
        self.same(least_host(HOUSE, BOOK, Claim.of(("before", ("in", BOB), ("in", CLEO)))), ())

    def test_errors(self):
        wrong = Claim.of(("wore", "zoe", ADA))
        self.refused(BadBook, least_host, HOUSE, [ADA], wrong)
        self.same(self.refused(BadFact, least_host, HOUSE, BOOK, wrong).fact, ("wore", "zoe", ADA))
