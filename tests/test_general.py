"""Points 2 to 4: what holds for all functions alike."""

from copy import deepcopy

from leavetaking.bars import bars
from leavetaking.books import events_of, is_book
from leavetaking.cases import Case
from leavetaking.casework import cases_of, first_evening, is_refutation, refutation
from leavetaking.chains import backward, forward, is_chain, kept_nights
from leavetaking.chances import chance_of, odds, story_chance
from leavetaking.choices import choices
from leavetaking.claimnotes import format_claim, parse_claim
from leavetaking.claims import Claim, check_claim
from leavetaking.counting import evening_by_number, evening_count, evening_number
from leavetaking.customs import Custom, custom_moves, custom_start
from leavetaking.customverdicts import custom_verdict, is_custom_table
from leavetaking.depths import least_depth, least_doubted, ordered_house
from leavetaking.desks import Desk, Supposing, perform
from leavetaking.errors import (
    BadBook, BadFact, BadNotation, BadNumber, BadPegs, BadRow, BadStep, BadWearing, HousesDiffer, LeaveError, NoEvening, NoOrder,
    NotLet, UnknownGuest,
)
from leavetaking.eveningnotes import format_evening, parse_evening
from leavetaking.evenings import book_of, evenings, is_evening, place_of, row_of, walk, wearing_of
from leavetaking.facts import contrary
from leavetaking.fitting import fits, misfit
from leavetaking.games import Game, next_position, options, start_position
from leavetaking.graphs import graph_of
from leavetaking.housenotes import format_house, parse_house
from leavetaking.houses import House
from leavetaking.hurrying import hurry
from leavetaking.inclusions import are_alike, include, is_inclusion
from leavetaking.keeping import keeps, lots_of
from leavetaking.levels import gone_at, is_closed, least_come, waiting
from leavetaking.likeness import compare_customs, is_likeness_table
from leavetaking.likings import liking, sure_likings
from leavetaking.longevenings import custom_walk, is_long_evening, live, reached
from leavetaking.meanings import holds
from leavetaking.means import likeliest, mean_come, moment_odds, wearing_odds
from leavetaking.opencases import OpenCase, open_bars
from leavetaking.openverdicts import is_open_refutation, open_cases, open_first, open_refutation, open_verdict
from leavetaking.papernotes import format_paper, parse_paper
from leavetaking.peeling import is_stuck, peel
from leavetaking.places import order_count, order_with_place, orders, place_range
from leavetaking.quarrels import fewest_doubted, least_doubts, least_quarrels
from leavetaking.quizzes import answer_rows, is_quiz_tree, quiz
from leavetaking.reasons import freed_by, least_reasons
from leavetaking.rowbooks import books_of, late_evening, latest_book, needs_of
from leavetaking.rowbounds import is_row, row_bounds, row_conflict
from leavetaking.rowcounts import quick_evening, row_evening_count, row_evenings
from leavetaking.rows import next_pairs, row_count, rows
from leavetaking.rowstories import first_difference, row_story
from leavetaking.seasons import Season, night_story
from leavetaking.seasonwords import first_chain, is_season_table, season_verdict, sure_after
from leavetaking.seen import Seen, explains, fits_seen
from leavetaking.settling import deciders, settling
from leavetaking.situations import is_open_table, open_evening, open_situations, rested
from leavetaking.solving import is_foe_table, is_host_table, least_host, solve
from leavetaking.sparing import lean, spare_facts
from leavetaking.standings import START, after_step, hanging, next_steps, present
from leavetaking.stories import Story
from leavetaking.storynotes import format_story, parse_story
from leavetaking.storysteps import story_steps
from leavetaking.sureorder import coming_numbers, evening_with_number, sure_order
from leavetaking.takers import (
    best_cloak, evening_with, own_range, possible_cloaks, possible_guests, sure_wearers, worst_cloak,
)
from leavetaking.takings import takings
from leavetaking.telling import do_tell, telling_guests
from leavetaking.torn import Torn, book_story, torn_fits, torn_of
from leavetaking.tornbooks import possible_books, sure_comings
from leavetaking.totals import greatest_total, is_price_table, is_ring
from leavetaking.unrolling import unrolled
from leavetaking.verdicts import is_verdict, verdict
from leavetaking.watches import Watch
from leavetaking.wearings import evening_of_wearing, possible_wearings

from tests.helpers import (
    ADA, BOB, CLEO, GUESTS, PromiseCase, TURNED, TURNED_BOOK, TURNED_EVENING, TURNED_WEARING, listed,
)

STORY = Story(TURNED, TURNED_BOOK, [("wore", ADA, BOB), ("chose", BOB, 2)])
STANDING = (3, ((BOB, CLEO),))
HUNG = ("hung", ("out", ADA), 1, (BOB, CLEO))
CHOSE = ("chose", BOB, 2)
# A case in which cleo cannot come, and a claim that every evening of STORY breaks.
CASE = Case(TURNED, TURNED_BOOK, TURNED_WEARING, [
    CHOSE, ("after", ("in", CLEO), 1, (("out", ADA),)), ("chose", ADA, 0),
])
CLAIM = Claim.of(HUNG) & (Claim.of(("wore", ADA, CLEO)) | Claim.of(("chose", CLEO, 0)))
PAPER = refutation(STORY.told(("before", ("out", CLEO), ("in", ADA))))
# A story that STORY is inside of, one that no evening fits, and a row that follows TURNED_BOOK.
WIDER = Story(TURNED, TURNED_BOOK, [("spared", ADA, ADA), ("before", ("in", ADA), ("out", ADA))])
QUARREL = STORY.told(("wore", ADA, CLEO)).told(HUNG).told(("spared", BOB, BOB))
ROW = ((BOB, CLEO), (CLEO, ADA), (ADA, BOB))
TAKEN = takings(TURNED, TURNED_EVENING)
SEEN = Seen(GUESTS, TAKEN, (1, 2, 1), ((ADA, BOB),))
TORN = Torn(TURNED, [("wore", ADA, BOB), ("before", ("in", BOB), ("in", ADA))])
# An open case that no evening fits, and a claim that no evening that fits TORN keeps.
OPEN_CASE = OpenCase(TURNED, TURNED_WEARING, [
    ("before", ("out", CLEO), ("in", ADA)), ("before", ("in", ADA), ("in", CLEO)), ("chose", ADA, 1),
])
TORN_CLAIM = Claim.of(("before", ("out", ADA), ("in", BOB)))
GAME = Game(TURNED, TURNED_BOOK, [CLEO, BOB], CLAIM)
POSITION = ((2, ((BOB, CLEO),)), (None,) * len(CLAIM.facts), "host")
# A claim that is open for STORY, questions that tell whether it is kept, and the tree of them.
ASKED = Claim.of(("spared", BOB, ADA))
QUESTIONS = (Claim.of(("before", ("out", CLEO), ("out", ADA))), Claim.of(("wore", CLEO, ADA)))
TREE = quiz(STORY, ASKED, QUESTIONS).tree
KINDS = TURNED.with_pegs(2)
ARROWS = ((1, CLEO, 0), (0, ADA, 1), (0, BOB, 0), (0, ADA, 1))
CUSTOM = Custom(KINDS, ARROWS, [0])
MOVES = (("in", BOB, 0), ("in", BOB, 0), ("out", BOB, CLEO), ("out", BOB, CLEO))
RULES = ((0, ("in", BOB), 1), (1, ("out", BOB, CLEO), 2))
# The arrows and ends of a custom with the same words as CUSTOM.
TWIN = (((1, BOB, 0), (0, BOB, 1), (0, ADA, 2), (1, ADA, 2), (2, CLEO, 0)), (0, 1))
WEIGHTS = ((BOB, CLEO, -2), (ADA, BOB, 0), (CLEO, ADA, -1))
GREAT_WEIGHTS = ((BOB, CLEO, 2),)
NIGHTS = ((TURNED_BOOK, (("wore", ADA, BOB),)), (GUESTS, (HUNG, CHOSE)))
SEASON = Season(TURNED, NIGHTS)
CHAIN = first_chain(SEASON)


def all_evenings(house, book):
    """The evenings of the generator in a tuple."""
    return tuple(evenings(house, book))


def made_case(house, book, wearing, facts):
    """The fields of the case."""
    case = Case(house, book, wearing, facts)
    return (case.book, case.wearing, case.facts)


def hurried(case):
    """The fields of the hurried evening."""
    found = hurry(case)
    return (found.steps, found.come, found.levels, found.whole)


def all_cases(story, claim):
    """What the cases of the generator have."""
    return tuple([(case.wearing, case.facts) for case in cases_of(story, claim)])


def all_wearings(story, claim):
    """The wearings of the generator in a tuple."""
    return tuple(possible_wearings(story, claim))


def judged(story, claim):
    """The fields of the verdict."""
    found = verdict(story, claim)
    return (found.word, found.keeping, found.breaking, found.paper)


def included(one, two):
    """The fields of the inclusion."""
    found = include(one, two)
    return (found.inside, found.evening, found.papers)


def all_rows(house, book):
    """The rows of the generator in a tuple."""
    return tuple(rows(house, book))


def all_row_evenings(house, book, row):
    """The evenings of the generator in a tuple."""
    return tuple(row_evenings(house, book, row))


def all_books(house, row):
    """The books of the generator in a tuple."""
    return tuple(books_of(house, row))


def made_seen(guests, taken, depths, ties):
    """The fields of what was seen."""
    seen = Seen(guests, taken, depths, ties)
    return (seen.guests, seen.takings, seen.depths, seen.ties)


def peeled(seen):
    """The fields of the peel."""
    found = peel(seen)
    return (found.order, found.left)


def liked(seen, one, two):
    """The fields of the liking."""
    found = liking(seen, one, two)
    return (found.word, found.keeping, found.breaking, found.left)


def all_orders(seen):
    """The orders of the generator in a tuple."""
    return tuple(orders(seen))


def made_torn(house, facts):
    """The facts of the torn story."""
    return Torn(house, facts).facts


def torn_told(torn, fact):
    """The facts of the torn story with one more."""
    return torn.told(fact).facts


def torn_from(story):
    """The facts of the torn story that is made of the story."""
    return torn_of(story).facts


def made_open_case(house, wearing, facts):
    """The fields of the open case."""
    case = OpenCase(house, wearing, facts)
    return (case.wearing, case.facts)


def all_open_cases(torn, claim):
    """What the cases of the generator have."""
    return tuple([(case.wearing, case.facts) for case in open_cases(torn, claim)])


def openly_judged(torn, claim):
    """The fields of the verdict."""
    found = open_verdict(torn, claim)
    return (found.word, found.keeping, found.breaking, found.paper)


def all_possible_books(torn, claim):
    """The books of the generator in a tuple."""
    return tuple(possible_books(torn, claim))


def graphed(story):
    """The fields of the graph."""
    found = graph_of(story)
    return (found.standings, found.arrows, found.counts)


def made_game(house, book, host, claim):
    """The fields of the game."""
    game = Game(house, book, host, claim)
    return (game.book, game.host, game.claim, start_position(game))


def solved(game):
    """The fields of the outcome."""
    found = solve(game)
    return (found.winner, found.table)


def quizzed(story, claim, questions):
    """The fields of the quiz."""
    found = quiz(story, claim, questions)
    return (found.count, found.tree, found.one, found.two)


def made_custom(house, arrows, ends):
    """The fields of the custom."""
    custom = Custom(house, arrows, ends)
    return (custom.arrows, custom.ends, custom_start(custom))


def made_watches(rules, good, event, other, moves):
    """The fields of watches, their next states, and whether they are kept."""
    watches = (Watch(rules, good), ~Watch(rules, good), Watch.never(event), Watch.follows(event, other))
    return tuple([(watch.rules, watch.good, watch.state_after(0, event), watch(moves)) for watch in watches])


def custom_judged(custom, rules, good):
    """The fields of the verdict on the watch with these rules."""
    found = custom_verdict(custom, Watch(rules, good))
    return (found.word, found.keeping, found.breaking, found.table)


def totalled(custom, weights):
    """The fields of the total."""
    found = greatest_total(custom, weights)
    return (found.word, found.total, found.evening, found.prices, found.ring)


def custom_table_judged(custom, rules, good, table):
    """Whether the table shows that the watch with these rules is kept."""
    return is_custom_table(custom, Watch(rules, good), table)


def likeness_table_judged(one, arrows, ends, table):
    """Whether the table shows that the custom with these arrows has the same words."""
    return is_likeness_table(one, Custom(one.house, arrows, ends), table)


def compared(one, arrows, ends):
    """The fields of the likeness of the custom and the one with these arrows."""
    found = compare_customs(one, Custom(one.house, arrows, ends))
    return (found.same, found.table, found.word, found.holder)


def made_season(house, nights):
    """The fields of the season."""
    season = Season(house, nights)
    return (season.nights, tuple(season), len(season))


def season_judged(season, night, claim):
    """The fields of the verdict."""
    found = season_verdict(season, night, claim)
    return (found.word, found.keeping, found.breaking)


def noted_story(house, book, facts):
    """The note of the story, and the story that is read from it."""
    note = format_story(Story(house, book, facts))
    return (note, parse_story(note), parse_house(format_house(house)))


def noted_evening(house, steps):
    """The note of the evening, and the evening that is read from it."""
    return (format_evening(steps), parse_evening(house, format_evening(steps)))


def noted_claim(house, claim):
    """The note of the claim, and the claim that is read from it."""
    return (format_claim(claim), parse_claim(house, format_claim(claim)))


def noted_paper(house, paper):
    """The note of the paper, and the paper that is read from it."""
    return (format_paper(paper), parse_paper(house, format_paper(paper)))


def performed(story, actions):
    """What was seen at a new desk, and how the desk was left."""
    desk = Desk(story)
    return (perform(desk, actions), desk.story, desk.deeds)


def done(story, deed):
    """The desk behind a deed."""
    desk = Desk(story)
    desk.do(deed)
    return (desk.story, desk.deeds)


def supposed(story, facts):
    """The story in the supposition."""
    with Supposing(Desk(story), facts) as desk:
        return desk.story


def claimed(fact):
    """The form of the claim."""
    return Claim.of(fact).form


def combined(claims):
    """The forms of the claims of all and of some of the claims, with their facts."""
    every, some = Claim.every(claims), Claim.some(claims)
    return (every.form, some.form, every.facts, some.facts, lots_of(every), lots_of(~some))


# A function, the house or story that it is passed first, and what it is passed behind that.
CALLS = (
    (is_book, TURNED, (TURNED_BOOK,)),
    (events_of, TURNED, ()),
    (hanging, TURNED, (TURNED_BOOK, STANDING)),
    (present, TURNED, (TURNED_BOOK, STANDING)),
    (next_steps, TURNED, (TURNED_BOOK, STANDING)),
    (after_step, TURNED, (TURNED_BOOK, STANDING, ("out", CLEO, ADA))),
    (walk, TURNED, (TURNED_BOOK, TURNED_EVENING[:4])),
    (is_evening, TURNED, (TURNED_BOOK, TURNED_EVENING)),
    (all_evenings, TURNED, (TURNED_BOOK,)),
    (wearing_of, TURNED, (TURNED_EVENING,)),
    (holds, TURNED, (TURNED_EVENING, HUNG)),
    (choices, TURNED, (TURNED_WEARING, HUNG)),
    (Story.told, STORY, (HUNG,)),
    (Story.__contains__, STORY, (("chose", BOB, 2),)),
    (misfit, STORY, (TURNED_EVENING,)),
    (fits, STORY, (TURNED_EVENING,)),
    (House.liking, TURNED, (ADA, (1, 2, 3))),
    (House.bringing, TURNED, ((CLEO, ADA, BOB),)),
    (performed, STORY, ((("tell", HUNG), ("suppose", (CHOSE,), (("drop", 0), ("look",))), ("attempt", (("look",),))),)),
    (done, STORY, (("tell", HUNG),)),
    (supposed, STORY, ((HUNG, CHOSE),)),
    (made_case, TURNED, (TURNED_BOOK, TURNED_WEARING, (CHOSE, ("bare", ("in", BOB), 1, (ADA, BOB))))),
    (bars, CASE, (2, (CLEO, BOB), ("out", ADA))),
    (hurried, CASE, ()),
    (is_closed, CASE, ((None, 1, None), 2)),
    (waiting, CASE, ()),
    (least_come, CASE, ((ADA, ADA),)),
    (gone_at, CASE, (2,)),
    (check_claim, TURNED, (CLAIM,)),
    (keeps, TURNED, (TURNED_EVENING, CLAIM)),
    (all_cases, STORY, (CLAIM,)),
    (first_evening, STORY, (~CLAIM,)),
    (refutation, STORY, (CLAIM,)),
    (is_refutation, STORY.told(("before", ("out", CLEO), ("in", ADA))), (None, PAPER)),
    (judged, STORY, (CLAIM,)),
    (is_verdict, STORY, (CLAIM, "never", (TURNED_EVENING, refutation(STORY, CLAIM)))),
    (sure_order, STORY, ()),
    (evening_with_number, STORY, (BOB, 2)),
    (coming_numbers, STORY, (BOB,)),
    (all_wearings, STORY, (~CLAIM,)),
    (evening_of_wearing, STORY, (TURNED_WEARING, ~CLAIM)),
    (possible_cloaks, STORY, (BOB,)),
    (possible_guests, STORY, (CLEO,)),
    (evening_with, STORY, (BOB, CLEO)),
    (sure_wearers, STORY, ()),
    (best_cloak, STORY, (BOB,)),
    (worst_cloak, STORY, (BOB,)),
    (own_range, STORY, ()),
    (do_tell, STORY, ((CLEO, ADA),)),
    (telling_guests, STORY, ()),
    (included, STORY, (WIDER,)),
    (included, WIDER, (STORY,)),
    (is_inclusion, STORY, (WIDER, include(STORY, WIDER).papers)),
    (are_alike, STORY, (WIDER,)),
    (spare_facts, STORY, ()),
    (lean, STORY, ()),
    (least_quarrels, QUARREL, ()),
    (least_doubts, QUARREL, ()),
    (fewest_doubted, QUARREL, ()),
    (least_reasons, QUARREL, (CLAIM,)),
    (freed_by, QUARREL, (CLAIM,)),
    (settling, STORY, (CLAIM, (HUNG, CHOSE))),
    (deciders, STORY, (CLAIM, (HUNG, CHOSE))),
    (is_row, TURNED, (ROW,)),
    (row_bounds, TURNED, (TURNED_BOOK, ROW)),
    (row_conflict, TURNED, (TURNED_BOOK, ROW[::-1])),
    (all_row_evenings, TURNED, (TURNED_BOOK, ROW)),
    (row_evening_count, TURNED, (TURNED_BOOK, ROW)),
    (quick_evening, TURNED, (TURNED_BOOK, ROW)),
    (all_rows, TURNED, (TURNED_BOOK,)),
    (row_count, TURNED, (TURNED_BOOK,)),
    (next_pairs, TURNED, (TURNED_BOOK, ROW[:1])),
    (needs_of, TURNED, (ROW,)),
    (late_evening, TURNED, (ROW,)),
    (all_books, TURNED, (ROW,)),
    (latest_book, TURNED, (ROW,)),
    (first_difference, TURNED, (TURNED_BOOK, GUESTS)),
    (row_story, TURNED, (TURNED_BOOK, ROW)),
    (takings, TURNED, (TURNED_EVENING,)),
    (fits_seen, SEEN, ((CLEO, ADA, BOB),)),
    (peeled, SEEN, ()),
    (is_stuck, SEEN.tied(BOB, ADA), ((BOB, ADA),)),
    (liked, SEEN, (ADA, CLEO)),
    (sure_likings, SEEN, ()),
    (all_orders, SEEN, ()),
    (order_count, SEEN, ()),
    (place_range, SEEN, (BOB,)),
    (order_with_place, SEEN, (BOB, 2)),
    (least_depth, SEEN, ()),
    (least_doubted, TURNED, ((TURNED_EVENING, TURNED_EVENING[:2] + (
        ("out", BOB, BOB), ("in", CLEO), ("out", CLEO, ADA), ("out", ADA, CLEO),
    )), (1, 1, 1))),
    (ordered_house, TURNED, ((CLEO, BOB, ADA), (1, 2, 3))),
    (made_torn, TURNED, ((HUNG, CHOSE),)),
    (torn_told, TORN, (HUNG,)),
    (torn_fits, TORN, (TURNED_EVENING,)),
    (torn_from, STORY, ()),
    (book_story, TORN, (TURNED_BOOK,)),
    (made_open_case, TURNED, (TURNED_WEARING, (CHOSE, ("bare", ("in", BOB), 1, (ADA, BOB))))),
    (open_bars, OPEN_CASE, ((CLEO, BOB), (BOB, ADA), ("out", CLEO))),
    (rested, OPEN_CASE, ((CLEO, BOB), (ADA,))),
    (open_situations, OPEN_CASE, ()),
    (open_evening, OpenCase(TURNED, TURNED_WEARING, [CHOSE]), ()),
    (is_open_table, OPEN_CASE, (open_situations(OPEN_CASE),)),
    (all_open_cases, TORN, (CLAIM,)),
    (open_first, TORN, (~CLAIM,)),
    (open_refutation, TORN, (TORN_CLAIM,)),
    (is_open_refutation, TORN, (TORN_CLAIM, open_refutation(TORN, TORN_CLAIM))),
    (openly_judged, TORN, (TORN_CLAIM,)),
    (all_possible_books, TORN, (~CLAIM,)),
    (sure_comings, TORN, ()),
    (story_steps, STORY, (STANDING,)),
    (graphed, STORY, ()),
    (evening_count, STORY, (~CLAIM,)),
    (evening_number, STORY, (TURNED_EVENING,)),
    (evening_by_number, STORY, (0,)),
    (chance_of, TURNED, (TURNED_BOOK, TURNED_EVENING)),
    (story_chance, STORY, (~CLAIM,)),
    (odds, STORY, (~CLAIM,)),
    (wearing_odds, STORY, ()),
    (mean_come, STORY, (CLEO,)),
    (likeliest, STORY, ()),
    (moment_odds, STORY, (CLEO,)),
    (made_game, TURNED, (TURNED_BOOK, (CLEO, BOB), CLAIM)),
    (options, GAME, (POSITION,)),
    (next_position, GAME, (POSITION, None)),
    (next_position, GAME, (POSITION[:2] + ("foe",), ("in", CLEO))),
    (solved, GAME, ()),
    (is_host_table, GAME, (solve(GAME).table,)),
    (is_foe_table, GAME, (solve(GAME).table,)),
    (least_host, TURNED, (TURNED_BOOK, CLAIM | Claim.of(("before", ("in", CLEO), ("out", BOB))))),
    (answer_rows, STORY, (ASKED, QUESTIONS)),
    (quizzed, STORY, (ASKED, QUESTIONS)),
    (quizzed, STORY, (ASKED, QUESTIONS[:1])),
    (is_quiz_tree, STORY, (ASKED, QUESTIONS, TREE, 1)),
    (made_custom, KINDS, (ARROWS, (0, 1, 0))),
    (custom_moves, CUSTOM, ((0, (0, 0, 1), (0, 1, 0)),)),
    (custom_walk, CUSTOM, (MOVES[:3],)),
    (is_long_evening, CUSTOM, (MOVES,)),
    (reached, CUSTOM, ()),
    (live, CUSTOM, ()),
    (custom_judged, CUSTOM, (RULES, (0, 1, 2))),
    (custom_judged, CUSTOM, (RULES, (1, 0))),
    (custom_table_judged, CUSTOM, (RULES, (0, 1, 2), custom_verdict(CUSTOM, Watch(RULES, [0, 1, 2])).table)),
    (totalled, CUSTOM, (WEIGHTS,)),
    (totalled, CUSTOM, (GREAT_WEIGHTS,)),
    (is_price_table, CUSTOM, (WEIGHTS, greatest_total(CUSTOM, WEIGHTS).prices, 0)),
    (is_ring, CUSTOM, (GREAT_WEIGHTS, greatest_total(CUSTOM, GREAT_WEIGHTS).ring)),
    (compared, CUSTOM, TWIN),
    (compared, CUSTOM, (ARROWS, (0, 1))),
    (likeness_table_judged, CUSTOM, TWIN + (compare_customs(CUSTOM, Custom(KINDS, *TWIN)).table,)),
    (unrolled, CUSTOM, (MOVES,)),
    (made_season, TURNED, (NIGHTS,)),
    (night_story, SEASON, (1, TURNED_WEARING)),
    (is_chain, SEASON, (CHAIN,)),
    (forward, SEASON, ()),
    (kept_nights, SEASON, ()),
    (backward, SEASON, (TURNED_WEARING,)),
    (first_chain, SEASON, (((1, ~CLAIM), (0, ~CLAIM), (1, CLAIM | Claim.of(CHOSE))),)),
    (season_judged, SEASON, (1, CLAIM)),
    (sure_after, SEASON, (0,)),
    (is_season_table, SEASON, (forward(SEASON),)),
    (noted_story, TURNED, (TURNED_BOOK, (HUNG, CHOSE, ("ahead", ("in", ADA), 3, (("out", ADA), ("in", BOB)))))),
    (noted_evening, TURNED, (TURNED_EVENING,)),
    (noted_claim, TURNED, (CLAIM,)),
    (noted_paper, TURNED, (PAPER,)),
)
CALLS_WITHOUT_HOUSE = (
    (book_of, (TURNED_EVENING,)),
    (row_of, (TURNED_EVENING,)),
    (place_of, (TURNED_EVENING, ("out", CLEO))),
    (contrary, (HUNG,)),
    (House, (GUESTS,)),
    (claimed, (HUNG,)),
    (combined, ((CLAIM, ~CLAIM),)),
    (made_seen, (GUESTS, TAKEN, (1, 2, 1), ((CLEO, ADA), (BOB, ADA)))),
    (explains, ((CLEO, BOB, ADA), TAKEN[0], 2)),
    (made_watches, (RULES, (1, 2, 1), ("in", BOB), ("out", BOB, CLEO), MOVES)),
)


class Sequences(PromiseCase):
    def calls(self):
        for call, first, rest in CALLS:
            yield lambda values, call=call, first=first: call(first, *values), rest
        for call, values in CALLS_WITHOUT_HOUSE:
            yield lambda values, call=call: call(*values), values

    def check_tuples(self, value):
        """Nothing in the value is a list; houses and stories give their fields."""
        if isinstance(value, House):
            value = (value.guests, value.brings, [value.taste(guest) for guest in value])
            self.check_tuples(value[0] + value[1] + tuple(value[2]))
        elif isinstance(value, Story):
            self.check_tuples((value.book, value.facts, value.wearers))
        elif isinstance(value, Claim):
            self.check_tuples((value.form, value.facts))
        elif isinstance(value, tuple):
            for item in value:
                self.check_tuples(item)
        else:
            self.assertNotIsInstance(value, list)

    def test_lists_are_taken_at_every_level_and_tuples_given_back(self):
        for call, values in self.calls():
            found = call(values)
            self.check_tuples(found)
            self.check_tuples(call(listed(values)))
            self.assertEqual(call(listed(values)), found)
            self.assertIs(type(call(listed(values))), type(found))

    def test_lists_of_tuples_and_tuples_of_lists(self):
        for call, values in self.calls():
            found = call(values)
            self.assertEqual(call([list(value) if isinstance(value, tuple) else value for value in values]), found)
            mixed = [tuple(listed(value)) if isinstance(value, tuple) else value for value in values]
            self.check_tuples(call(mixed))
            self.assertEqual(call(mixed), found)

    def test_no_argument_is_changed(self):
        for call, values in self.calls():
            passed = listed(values)
            kept = deepcopy(passed)
            call(passed)
            self.assertEqual(passed, kept)

    def test_a_later_change_to_an_argument_changes_no_answer(self):
        for call, values in self.calls():
            passed = listed(values)
            found = call(passed)
            for value in passed:
                if isinstance(value, list):
                    for item in value:
                        if isinstance(item, list):
                            item.clear()
                    value.clear()
            self.assertEqual(found, call(values))

    def test_the_same_question_has_the_same_answer(self):
        for call, values in self.calls():
            self.assertEqual(call(values), call(values))

    def test_the_same_object_may_be_passed_twice(self):
        names = [ADA, BOB, CLEO]
        house = House(names, brings=names)
        self.assertEqual(house, House(GUESTS))
        self.assertIs(is_book(house, names), True)
        story = Story(house, names)
        self.assertEqual(len(story + story), 0)
        event = ["in", ADA]
        self.same(contrary(["after", ["out", ADA], 1, [event]]), ("ahead", ("out", ADA), 1, (("in", ADA),)))
        due = choices(house, GUESTS, ("there", ("out", ADA), 3, GUESTS))
        self.same(choices(house, names, ["there", ["out", ADA], 3, names]), due)


class Errors(PromiseCase):
    def test_the_fields_of_errors_have_tuples(self):
        error = self.refused(NotLet, after_step, TURNED, listed(TURNED_BOOK), [0, []], ["out", "zoe", ADA])
        self.same(error.step, ("out", "zoe", ADA))
        wrong = ["after", ["out", ADA], 1, [["in", "zoe"], ["in", ADA]]]
        due = ("after", ("out", ADA), 1, (("in", "zoe"), ("in", ADA)))
        self.same(self.refused(BadFact, Story, TURNED, TURNED_BOOK, [wrong]).fact, due)
        error = self.refused(BadFact, STORY.told, wrong)
        wrong[3].clear()
        self.same(error.fact, due)

    def test_true_and_false_are_no_whole_numbers(self):
        for wrong in (True, False):
            for fact in (("chose", ADA, wrong), ("hung", ("in", ADA), wrong, (ADA,))):
                self.assertIs(type(self.refused(BadFact, STORY.told, fact).fact[2]), bool)

    def test_a_refused_call_changes_nothing(self):
        story = Story(TURNED, TURNED_BOOK, [HUNG])
        self.refused(BadFact, story.told, ("chose", ADA, -1))
        self.assertEqual(story, Story(TURNED, TURNED_BOOK, [HUNG]))
        self.assertIs(story.house == TURNED, True)


WRONG_BOOK = (BOB, BOB, ADA)
WRONG_FACT = ("wore", "zoe", ADA)
WRONG_CLAIM = CLAIM & Claim.of(WRONG_FACT)
NO_EVENING = STORY.told(("wore", ADA, ADA))
NO_ORDER = SEEN.tied(BOB, ADA)
NO_CHAIN = Season(TURNED, [(GUESTS, [("chose", ADA, 0)])])
# Calls in which several things are wrong, with the error that is due first.
ORDER = (
    (BadBook, hanging, (TURNED, WRONG_BOOK, START)),
    (BadBook, present, (TURNED, WRONG_BOOK, START)),
    (BadBook, next_steps, (TURNED, WRONG_BOOK, START)),
    (BadBook, after_step, (TURNED, WRONG_BOOK, START, ("in", "zoe"))),
    (BadBook, walk, (TURNED, WRONG_BOOK, [("in", "zoe")])),
    (BadBook, is_evening, (TURNED, WRONG_BOOK, [("in", "zoe")])),
    (BadBook, all_evenings, (TURNED, WRONG_BOOK)),
    (BadBook, Story, (TURNED, WRONG_BOOK, [WRONG_FACT])),
    (BadBook, Case, (TURNED, WRONG_BOOK, WRONG_BOOK, [WRONG_FACT])),
    (BadWearing, Case, (TURNED, TURNED_BOOK, WRONG_BOOK, [WRONG_FACT])),
    (BadWearing, OpenCase, (TURNED, WRONG_BOOK, [WRONG_FACT])),
    (BadBook, row_bounds, (TURNED, WRONG_BOOK, ROW[:1])),
    (BadBook, row_conflict, (TURNED, WRONG_BOOK, ROW[:1])),
    (BadBook, all_row_evenings, (TURNED, WRONG_BOOK, ROW[:1])),
    (BadBook, row_evening_count, (TURNED, WRONG_BOOK, ROW[:1])),
    (BadBook, quick_evening, (TURNED, WRONG_BOOK, ROW[:1])),
    (BadBook, all_rows, (TURNED, WRONG_BOOK)),
    (BadBook, row_count, (TURNED, WRONG_BOOK)),
    (BadBook, next_pairs, (TURNED, WRONG_BOOK, ROW * 2)),
    (BadBook, row_story, (TURNED, WRONG_BOOK, ROW[:1])),
    (BadBook, first_difference, (TURNED, TURNED_BOOK, WRONG_BOOK)),
    (BadBook, book_story, (TORN, WRONG_BOOK)),
    (BadBook, chance_of, (TURNED, WRONG_BOOK, TURNED_EVENING)),
    (BadBook, Game, (TURNED, WRONG_BOOK, ["zoe"], WRONG_CLAIM)),
    (UnknownGuest, Game, (TURNED, TURNED_BOOK, ["zoe"], WRONG_CLAIM)),
    (BadFact, Game, (TURNED, TURNED_BOOK, [], WRONG_CLAIM)),
    (BadBook, least_host, (TURNED, WRONG_BOOK, WRONG_CLAIM)),
    (BadBook, Season, (TURNED, [(TURNED_BOOK, [WRONG_FACT]), (WRONG_BOOK, [])])),
    (BadWearing, evening_of_wearing, (NO_EVENING, WRONG_BOOK, WRONG_CLAIM)),
    (BadFact, evening_of_wearing, (NO_EVENING, TURNED_WEARING, WRONG_CLAIM)),
    (BadFact, settling, (NO_EVENING, WRONG_CLAIM, [("chose", ADA, True)])),
    (BadFact, deciders, (NO_EVENING, WRONG_CLAIM, [])),
    (BadFact, first_evening, (NO_EVENING, WRONG_CLAIM)),
    (BadFact, refutation, (NO_EVENING, WRONG_CLAIM)),
    (BadFact, is_refutation, (NO_EVENING, WRONG_CLAIM, ())),
    (BadFact, verdict, (NO_EVENING, WRONG_CLAIM)),
    (BadFact, is_verdict, (NO_EVENING, WRONG_CLAIM, "nothing", (None, ()))),
    (BadFact, keeps, (TURNED, TURNED_EVENING, WRONG_CLAIM)),
    (BadFact, least_reasons, (NO_EVENING, WRONG_CLAIM)),
    (BadFact, freed_by, (NO_EVENING, WRONG_CLAIM)),
    (BadFact, open_first, (TORN, WRONG_CLAIM)),
    (BadFact, open_refutation, (TORN, WRONG_CLAIM)),
    (BadFact, is_open_refutation, (TORN, WRONG_CLAIM, ())),
    (BadFact, open_verdict, (TORN, WRONG_CLAIM)),
    (BadFact, evening_count, (NO_EVENING, WRONG_CLAIM)),
    (BadFact, story_chance, (NO_EVENING, WRONG_CLAIM)),
    (BadFact, odds, (NO_EVENING, WRONG_CLAIM)),
    (BadFact, answer_rows, (NO_EVENING, WRONG_CLAIM, [])),
    (BadFact, quiz, (NO_EVENING, WRONG_CLAIM, [])),
    (BadFact, is_quiz_tree, (NO_EVENING, CLAIM, [WRONG_CLAIM], None, 0)),
    (BadFact, first_chain, (NO_CHAIN, [(0, WRONG_CLAIM)])),
    (BadFact, season_verdict, (NO_CHAIN, 0, WRONG_CLAIM)),
    (UnknownGuest, coming_numbers, (NO_EVENING, "zoe")),
    (UnknownGuest, evening_with_number, (NO_EVENING, "zoe", 1)),
    (UnknownGuest, possible_cloaks, (NO_EVENING, "zoe")),
    (UnknownGuest, possible_guests, (NO_EVENING, "zoe")),
    (UnknownGuest, evening_with, (NO_EVENING, ADA, "zoe")),
    (UnknownGuest, best_cloak, (NO_EVENING, "zoe")),
    (UnknownGuest, worst_cloak, (NO_EVENING, "zoe")),
    (UnknownGuest, do_tell, (NO_EVENING, [ADA, "zoe"])),
    (UnknownGuest, mean_come, (NO_EVENING, "zoe")),
    (UnknownGuest, moment_odds, (NO_EVENING, "zoe")),
    (UnknownGuest, place_range, (NO_ORDER, "zoe")),
    (UnknownGuest, order_with_place, (NO_ORDER, "zoe", 0)),
    (NoOrder, place_range, (NO_ORDER, ADA)),
    (NoOrder, sure_likings, (NO_ORDER,)),
    (NoEvening, coming_numbers, (NO_EVENING, ADA)),
    (NoEvening, sure_order, (NO_EVENING,)),
    (NoEvening, sure_wearers, (NO_EVENING,)),
    (NoEvening, best_cloak, (NO_EVENING, ADA)),
    (NoEvening, own_range, (NO_EVENING,)),
    (NoEvening, sure_comings, (TORN.told(("wore", ADA, ADA)),)),
    (NoEvening, sure_after, (NO_CHAIN, 0)),
    (BadNumber, evening_by_number, (NO_EVENING, 0)),
    (BadWearing, backward, (NO_CHAIN, WRONG_BOOK)),
    (BadPegs, Custom, (TURNED, [(0, "zoe", 0)], [])),
    (BadStep, unrolled, (CUSTOM, MOVES[:1] + (("in", "zoe", 0),))),
    (NoEvening, unrolled, (CUSTOM, MOVES[:1])),
    (HousesDiffer, compare_customs, (CUSTOM, Custom(House([ADA], pegs=1), [], []))),
    (HousesDiffer, is_likeness_table, (CUSTOM, Custom(House([ADA], pegs=1), [], []), ())),
    (BadNotation, parse_house, ("house ada ada",)),
    (BadNotation, parse_story, ("house ada\nbook zoe\n",)),
    (BadNotation, parse_evening, (TURNED, "out zoe ada\n")),
    (BadNotation, parse_claim, (TURNED, "[wore zoe ada]\n")),
    (BadNotation, parse_paper, (TURNED, "wearing zoe\n")),
)


class Order(PromiseCase):
    def test_the_error_that_is_due_first(self):
        for error, call, values in ORDER:
            with self.subTest(call.__name__):
                self.assertIsInstance(self.refused(error, call, *values), LeaveError)
                # The refused call changed nothing, and the same question has the same answer.
                self.refused(error, call, *values)


class Generators(PromiseCase):
    def test_errors_are_raised_when_the_first_item_is_asked_for(self):
        found = evenings(TURNED, [ADA])
        with self.assertRaises(BadBook):
            next(found)

    def test_arguments_are_copied_when_the_first_item_is_asked_for(self):
        book = list(TURNED_BOOK)
        found = evenings(TURNED, book)
        first = next(found)
        book.reverse()
        self.assertEqual((first,) + tuple(found), all_evenings(TURNED, TURNED_BOOK))
        book = [ADA]
        found = evenings(TURNED, book)
        book[:] = TURNED_BOOK
        self.assertEqual(tuple(found), all_evenings(TURNED, TURNED_BOOK))

    def test_errors_of_cases_and_wearings(self):
        strange = Claim.of(("chose", "zoe", 1))
        for found in (cases_of(STORY, strange), possible_wearings(STORY, strange), open_cases(TORN, strange),
                      possible_books(TORN, strange)):
            with self.assertRaises(BadFact):
                next(found)

    def test_errors_of_rows(self):
        for found in (rows(TURNED, [ADA]), row_evenings(TURNED, [ADA], [])):
            with self.assertRaises(BadBook):
                next(found)
        for found in (books_of(TURNED, []), row_evenings(TURNED, TURNED_BOOK, [])):
            with self.assertRaises(BadRow):
                next(found)

    def test_other_questions_in_between_change_nothing(self):
        due = [call(first, *values) for call, first, values in CALLS]
        found = possible_wearings(STORY), cases_of(STORY, ~CLAIM), evenings(TURNED, TURNED_BOOK)
        others = rows(TURNED, TURNED_BOOK), row_evenings(TURNED, TURNED_BOOK, ROW), books_of(TURNED, ROW)
        seen = orders(SEEN), open_cases(TORN, ~CLAIM), possible_books(TORN, ~CLAIM)
        firsts = [next(generator) for generator in found]
        seen_firsts = [next(generator) for generator in seen]
        other_firsts = [next(generator) for generator in others]
        self.assertEqual([call(first, *values) for call, first, values in reversed(CALLS)], due[::-1])
        self.assertEqual((firsts[0],) + tuple(found[0]), tuple(possible_wearings(STORY)))
        rest = [(case.wearing, case.facts) for case in [firsts[1]] + list(found[1])]
        self.assertEqual(tuple(rest), all_cases(STORY, ~CLAIM))
        self.assertEqual((firsts[2],) + tuple(found[2]), all_evenings(TURNED, TURNED_BOOK))
        whole = [(first,) + tuple(generator) for first, generator in zip(other_firsts, others)]
        self.assertEqual(whole, [all_rows(TURNED, TURNED_BOOK), all_row_evenings(TURNED, TURNED_BOOK, ROW),
                                 all_books(TURNED, ROW)])
        self.assertEqual((seen_firsts[0],) + tuple(seen[0]), all_orders(SEEN))
        rest = [(case.wearing, case.facts) for case in [seen_firsts[1]] + list(seen[1])]
        self.assertEqual(tuple(rest), all_open_cases(TORN, ~CLAIM))
        self.assertEqual((seen_firsts[2],) + tuple(seen[2]), all_possible_books(TORN, ~CLAIM))

    def test_two_generators_do_not_disturb_each_other(self):
        one, two = evenings(TURNED, TURNED_BOOK), evenings(TURNED, TURNED_BOOK)
        pairs = list(zip(one, two))
        self.assertEqual([first for first, _ in pairs], [second for _, second in pairs])
        self.assertEqual(len(pairs), len(all_evenings(TURNED, TURNED_BOOK)))
