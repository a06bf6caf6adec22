"""What tests of counts, odds and games need: the document's definitions written out plainly."""

from fractions import Fraction

from leavetaking.evenings import evenings
from leavetaking.houses import House
from leavetaking.stories import Story

from tests.helpers import ADA, BOB, CLEO, GUESTS, fitting, liked_better, sample_houses, says, says_form, \
    state_at, some_stories

ABOUT_FIRST_EVENT = ("hung", "bare", "there", "away", "after", "ahead")


def about(fact):
    """The event that the fact is about, read off point 74."""
    if fact[0] == "before":
        return fact[2]
    return fact[1] if fact[0] in ABOUT_FIRST_EVENT else ("out", fact[1])


def standing_at(house, evening, place):
    """The standing ahead of the step at this place of the evening."""
    ahead = evening[:place]
    gone = [step[1:] for step in ahead if step[0] == "out"]
    return (len(ahead) - len(gone), tuple(sorted(gone, key=lambda pair: house.guests.index(pair[0]))))


def plain_let(house, book, ahead):
    """All steps that are let behind these steps, in order, read off point 11."""
    come = len([step for step in ahead if step[0] == "in"])
    _, room, hung = state_at(house, ahead, len(ahead))
    steps = [("in", guest) for guest in book[come:come + 1] if house.pegs is None or len(hung) < house.pegs]
    return steps + [("out", guest, cloak) for guest in room for cloak in hung
                    if liked_better(house, guest, cloak, hung) < house.depth(guest)]


def plain_chance(house, book, evening):
    """The chance of the evening."""
    chance = Fraction(1)
    for place in range(len(evening)):
        chance /= len(plain_let(house, book, evening[:place]))
    return chance


def all_chances(house, book):
    """All evenings, in order, each with its chance."""
    return {evening: plain_chance(house, book, evening) for evening in evenings(house, book)}


def pair(value):
    """The fraction as a pair, or None."""
    return None if value is None else (Fraction(value).numerator, Fraction(value).denominator)


def odds_stories(count):
    """Stories and claims of the sample houses, some of which no evening fits."""
    yield from some_stories(count)
    for house, book in sample_houses()[5:8]:
        for fact in (("spared", CLEO, CLEO), ("before", ("in", book[2]), ("out", book[0])), ("chose", BOB, 0)):
            for _, claim in some_stories(1, [(house, book)]):
                yield Story(house, book, [fact]), claim


class PlainPlay:
    """What the steps of a play, made so far, tell of a game."""

    def __init__(self, game, steps, turn):
        self.game = game
        self.steps = tuple(steps)
        self.turn = turn

    def choices(self):
        """What the one who has the turn may do, in order."""
        steps = plain_let(self.game.house, self.game.book, self.steps)
        hosts = [step for step in steps if step[0] == "out" and step[1] in self.game.host]
        foes = [step for step in steps if step not in hosts]
        if self.turn == "foe":
            return foes
        return hosts + [None] if foes else hosts

    def after(self, choice):
        """The play behind the choice."""
        if choice is None:
            return PlainPlay(self.game, self.steps, "foe")
        return PlainPlay(self.game, self.steps + (choice,), "host")

    def whole(self):
        """Some evening with which the play can end."""
        steps = self.steps
        while len(steps) < 2 * len(self.game.house):
            steps += (plain_let(self.game.house, self.game.book, steps)[-1],)
        return steps

    def position(self):
        """The position of the play."""
        whole, marks = self.whole(), []
        happened = [step[:2] for step in self.steps]
        for fact in self.game.claim.facts:
            settlers = [fact[1], fact[2]] if fact[0] == "before" else [about(fact)]
            is_settled = any(event in happened for event in settlers)
            marks.append(says(self.game.house, whole, fact) if is_settled else None)
        return (standing_at(self.game.house, self.steps, len(self.steps)), tuple(marks), self.turn)

    def is_hosts(self, known):
        """Whether the host can win from here."""
        key = (self.steps, self.turn)
        if key not in known:
            choices = self.choices()
            if not choices:
                known[key] = says_form(self.game.house, self.steps, self.game.claim.form)
            else:
                wins = [self.after(choice).is_hosts(known) for choice in choices]
                known[key] = any(wins) if self.turn == "host" else all(wins)
        return known[key]


def plain_outcome(game):
    """The winner of the game and its table, found by going through all plays."""
    known, first = {}, PlainPlay(game, (), "host")
    winner = "host" if first.is_hosts(known) else "foe"
    queue, found, table = [first], {first.position()}, []
    for play in queue:
        choices = play.choices()
        if choices and play.turn == winner:
            choices = [[choice for choice in choices
                        if play.after(choice).is_hosts(known) == (winner == "host")][0]]
            table.append((play.position(), choices[0]))
        for choice in choices:
            after = play.after(choice)
            if after.position() not in found:
                found.add(after.position())
                queue.append(after)
    return winner, tuple(table)


def game_houses():
    """Pairs of a house and a book with up to three guests, for tests that go through all plays."""
    three = House(GUESTS)
    return sample_houses()[:7] + [
        (three.with_pegs(1), (BOB, CLEO, ADA)),
        (three.choosing(ADA, 2).choosing(BOB, 3), (BOB, CLEO, ADA)),
        (House(GUESTS, brings=(BOB, CLEO, ADA)).choosing(BOB, 2), (BOB, ADA, CLEO)),
        (House(GUESTS, worth=[1, 1, 1]).with_pegs(2), (CLEO, ADA, BOB)),
    ]


def hung_then(house, evening, event):
    """The cloaks that hung at the event."""
    place = [step[:2] for step in evening].index(event)
    _, _, hung = state_at(house, evening, place)
    return hung


__all__ = ["ABOUT_FIRST_EVENT", "about", "all_chances", "fitting", "game_houses", "hung_then", "liked_better",
           "odds_stories", "pair", "plain_chance", "plain_let", "plain_outcome", "PlainPlay", "standing_at"]
