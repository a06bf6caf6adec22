"""Point 95: whether two customs have the same words of leavings."""

from random import Random

from leavetaking.customs import Custom
from leavetaking.errors import HousesDiffer
from leavetaking.houses import House
from leavetaking.likeness import compare_customs, is_likeness_table
from leavetaking.longevenings import live

from tests.helpers import ADA, BOB, CLEO, PromiseCase, listed, within
from tests.helpers_customs import (
    DEEP, TWO, long_evenings, plain_ends, plain_live, plain_moves, plain_reached, some_arrows, some_customs,
)

LONE = House([ADA], pegs=1)
PAIR = (ADA, ADA)
ONE = Custom(LONE, [(0, ADA, 0)], [0])
# The same words, but by way of two states.
TWIN = Custom(LONE, [(0, ADA, 1), (1, ADA, 0)], [0, 1])
EVEN = Custom(LONE, [(0, ADA, 1), (1, ADA, 0)], [0])
EMPTY = Custom(LONE, [(0, ADA, 0)], [7])


def word_of(moves):
    """The word of the long evening."""
    return tuple([(move[1], move[2]) for move in moves if move[0] == "out"])


def words_of(custom, most):
    """All words of at most so many pairs: each guest comes once and leaves once."""
    return {word_of(moves) for moves in long_evenings(custom, 2 * most)}


def plain_lot(custom, row):
    """The lot of the row, read off point 95."""
    conditions, alive = plain_reached(custom), plain_live(custom)
    found = [(conditions[0], 0)]
    for condition, at in found:
        for move, after in plain_moves(custom, condition):
            if move[0] == "in":
                further = (after, at)
            elif at < len(row) and move[1:] == row[at]:
                further = (after, at + 1)
            else:
                continue
            if further not in found:
                found.append(further)
    return tuple([index for index, condition in enumerate(alive) if (condition, len(row)) in found])


def plain_table(one, two):
    """The pairs of lots of all rows, in the order in which they are found, with a row for each."""
    pairs = [(kind, cloak) for kind in one.house for cloak in one.house]
    rows, found = [()], {}
    for row in rows:
        lots = (plain_lot(one, row), plain_lot(two, row))
        if lots not in found:
            found[lots] = row
            rows.extend([row + (pair,) for pair in pairs])
    return found


def ends_in(custom, lot):
    """Whether the lot contains a condition that ends."""
    return any(plain_ends(custom, plain_live(custom)[at]) for at in lot)


def custom_pairs(count):
    """Pairs of customs of houses with the same guests, some of which have the same words."""
    draw = Random(95)
    for one in some_customs(count):
        house = one.house
        sort = draw.choice(("same", "arrows", "house", "ends"))
        if sort == "arrows":
            yield one, Custom(house, some_arrows(draw, house), one.ends)
        elif sort == "house":
            other = house.with_pegs(2)
            if draw.choice((True, False)):
                other = house.choosing(house.guests[0], 2)
            yield one, Custom(other, one.arrows, one.ends)
        elif sort == "ends":
            yield one, Custom(house, one.arrows, [0])
        else:
            # The same custom, whose states have other numbers behind the first one.
            states = {0: 0, 1: 5, 2: 4}
            arrows = [(states[state], kind, states[after]) for state, kind, after in one.arrows]
            yield one, Custom(house, arrows, [states[end] for end in one.ends])


class Comparing(PromiseCase):
    def fields(self, one, two):
        found = compare_customs(one, two)
        return (found.same, found.table, found.word, found.holder)

    def test_the_same_words_by_different_arrows(self):
        self.same(live(TWIN), ((0, (0,), (0,)), (1, (1,), (1,)), (1, (0,), (0,)), (0, (1,), (1,))))
        self.same(self.fields(ONE, TWIN), (True, (((0, 1), (0, 1)), ((0, 1), (2, 3))), None, None))
        self.same(self.fields(TWIN, ONE), (True, (((0, 1), (0, 1)), ((2, 3), (0, 1))), None, None))
        self.same(self.fields(ONE, ONE), (True, (((0, 1), (0, 1)),), None, None))

    def test_words_that_one_custom_alone_has(self):
        self.same(self.fields(ONE, EVEN), (False, (), (PAIR,), 0))
        self.same(self.fields(EVEN, ONE), (False, (), (PAIR,), 1))
        odd = Custom(LONE, EVEN.arrows, [1])
        # The empty word: the empty long evening has it.
        self.same([self.fields(EVEN, odd), self.fields(odd, EVEN)], [(False, (), (), 0), (False, (), (), 1)])
        three = Custom(LONE, [(0, ADA, 1), (1, ADA, 2), (2, ADA, 0)], [0, 1, 2])
        self.same(self.fields(three, ONE)[0], True)
        three = Custom(LONE, three.arrows, [0, 1])
        self.same(self.fields(three, ONE), (False, (), (PAIR, PAIR), 1))

    def test_the_least_word(self):
        # Of words with as many pairs, the order of the pairs at the first difference decides.
        one = Custom(DEEP, [(0, ADA, 1), (0, BOB, 1)], [1])
        two = Custom(DEEP, [(0, ADA, 2)], [2])
        self.same(self.fields(one, two), (False, (), ((BOB, BOB),), 0))
        turned = Custom(DEEP.bringing([BOB, ADA]), one.arrows, [1])
        self.same(self.fields(one, turned), (False, (), ((ADA, ADA),), 0))
        self.same(self.fields(turned, one), (False, (), ((ADA, ADA),), 1))
        self.same(sorted(words_of(turned, 2)), [((ADA, BOB),), ((BOB, ADA),)])

    def test_customs_without_a_long_evening(self):
        self.same(self.fields(EMPTY, EMPTY), (True, (), None, None))
        self.same(self.fields(EMPTY, Custom(LONE, [], [])), (True, (), None, None))
        self.same(self.fields(EMPTY, ONE), (False, (), (), 1))
        odd = Custom(LONE, [(0, ADA, 1)], [1])
        self.same(self.fields(odd, EMPTY), (False, (), (PAIR,), 0))

    def test_houses_that_differ(self):
        table = (((0,), (0,)),)
        for other in (House([BOB], pegs=1), House([ADA, BOB], pegs=1), House([CLEO, ADA], pegs=2)):
            custom = Custom(other, [], [0])
            for one, two in ((ONE, custom), (custom, ONE)):
                self.refused(HousesDiffer, compare_customs, one, two)
                self.refused(HousesDiffer, is_likeness_table, one, two, table)
        self.refused(HousesDiffer, compare_customs, Custom(TWO, [], [0]), Custom(House([BOB, ADA], pegs=2), [], [0]))
        # Tastes, depths, cloaks that are brought and pegs may differ.
        other = Custom(TWO.bringing([BOB, ADA]).with_pegs(4).liking(BOB, [0, 3]).choosing(ADA, 9), [], [0])
        self.same(self.fields(Custom(TWO, [], [0]), other), (True, (((0,), (0,)),), None, None))

    def test_all_small_customs(self):
        kinds = []
        for one, two in custom_pairs(90):
            found = compare_customs(one, two)
            table = plain_table(one, two)
            differing = [row for lots, row in table.items() if ends_in(one, lots[0]) != ends_in(two, lots[1])]
            self.assertIs(found.same, not differing)
            words = words_of(one, 2), words_of(two, 2)
            if found.same:
                self.assertEqual(words[0], words[1])
                self.same(found.table, tuple([lots for lots in table if lots != ((), ())]))
                self.same((found.word, found.holder), (None, None))
                self.assertIs(is_likeness_table(one, two, found.table), True)
            else:
                self.same((found.table, found.word), ((), differing[0]))
                self.same(found.holder, 0 if ends_in(one, plain_lot(one, found.word)) else 1)
                if len(found.word) <= 2:
                    self.assertIn(found.word, words[found.holder])
                    self.assertNotIn(found.word, words[1 - found.holder])
                    least = min(len(word) for word in words[0] ^ words[1])
                    self.assertEqual(len(found.word), least)
                self.assertIs(is_likeness_table(one, two, list(table)), False)
            kinds.append((found.same, len(found.table) > 2, found.holder, len(found.word or ()) > 1))
        self.assertGreater(len(set(kinds)), 4)

    def test_many_lots(self):
        house = House([ADA, BOB, CLEO], pegs=2).choosing(ADA, 2).choosing(BOB, 2)
        arrows = [(state, kind, (state + 1) % 4) for state in range(4) for kind in house]
        with within(60):
            found = compare_customs(Custom(house, arrows, [0]), Custom(house, [(0, kind, 0) for kind in house], [0]))
            self.same((found.same, found.word, found.holder), (False, ((ADA, ADA),), 1))
            self.same(compare_customs(Custom(house, arrows, range(4)), Custom(house, [(0, kind, 0) for kind in house], [0])).same, True)


class Tables(PromiseCase):
    def test_pairs_left_out(self):
        table = compare_customs(ONE, TWIN).table
        self.same(is_likeness_table(ONE, TWIN, table), True)
        self.same(is_likeness_table(ONE, TWIN, listed(table[::-1] + table)), True)
        self.same([is_likeness_table(ONE, TWIN, part) for part in (table[:1], table[1:], ())], [False] * 3)
        # Not a pair of lots of these two: the second lot has indexes of no condition.
        self.same(is_likeness_table(TWIN, ONE, table), False)

    def test_two_empty_lots(self):
        table = compare_customs(ONE, TWIN).table
        self.same(is_likeness_table(ONE, TWIN, table + (((), ()),)), True)
        self.same(is_likeness_table(EMPTY, EMPTY, ()), True)
        self.same(is_likeness_table(EMPTY, EMPTY, [[[], []]]), True)
        # One empty lot and one that is not: their pairs are looked at like all others.
        self.same(is_likeness_table(EMPTY, ONE, (((), (0, 1)),)), False)
        self.same(is_likeness_table(EMPTY, ONE, ()), False)

    def test_lots_in_which_one_ends_and_the_other_does_not(self):
        table = compare_customs(ONE, TWIN).table
        for wrong in (((0,), (1,)), ((1,), (0,)), ((0,), ()), ((), (2,))):
            self.same(is_likeness_table(ONE, TWIN, table + (wrong,)), False)
        # Lots that come about with no row are fine, if what follows them is in the table.
        self.same(is_likeness_table(ONE, TWIN, table + (((0,), (0,)),)), True)
        self.same(is_likeness_table(ONE, TWIN, table + (((0,), (2,)),)), True)
        self.same(is_likeness_table(ONE, TWIN, table + (((0, 1), (0, 1, 2, 3)),)), True)
        self.same(is_likeness_table(ONE, TWIN, table + (((0,), (0, 2)),)), False)

    def test_comings_ahead_of_the_leaving_and_behind_it(self):
        # The lot of the second conditions alone: the leaving is made at once, and then ada may come again.
        table = (((0, 1), (0, 1)), ((1,), (1,)))
        self.same(is_likeness_table(ONE, ONE, table), True)
        self.same(is_likeness_table(ONE, ONE, (((0, 1), (0, 1)), ((0,), (0,)))), True)
        self.same(is_likeness_table(ONE, ONE, (((0, 1), (0, 1)), ((0,), (0, 1)))), True)
        self.same(is_likeness_table(ONE, ONE, (((0,), (0,)),)), False)

    def test_all_small_customs(self):
        draw = Random(96)
        verdicts = []
        for one, two in custom_pairs(60):
            table = list(plain_table(one, two))
            due = all(ends_in(one, lots[0]) == ends_in(two, lots[1]) for lots in table)
            self.assertIs(is_likeness_table(one, two, table), due)
            if due:
                for lots in table:
                    rest = [other for other in table if other != lots]
                    self.assertIs(is_likeness_table(one, two, rest), lots == ((), ()))
                extra = tuple([tuple([at for at in range(len(live(custom))) if draw.choice((True, False))]) for custom in (one, two)])
                verdicts.append(self.plain_judged(one, two, table + [extra]))
                self.assertIs(is_likeness_table(one, two, table + [extra]), verdicts[-1])
        self.assertGreater(min(verdicts.count(True), verdicts.count(False)), 2)

    def plain_judged(self, one, two, table):
        """The last pair of the table judged by its definition; the others are right."""
        lots = table[-1]
        if ends_in(one, lots[0]) != ends_in(two, lots[1]):
            return False
        for pair in [(kind, cloak) for kind in one.house for cloak in one.house]:
            after = tuple([self.lot_after(custom, lot, pair) for custom, lot in zip((one, two), lots)])
            if after != ((), ()) and after not in table:
                return False
        return True

    def lot_after(self, custom, lot, pair):
        alive = plain_live(custom)
        found = [(alive[at], False) for at in lot]
        for condition, has_left in found:
            for move, after in plain_moves(custom, condition):
                if after in alive and (move[0] == "in" or (not has_left and move[1:] == pair)):
                    further = (after, has_left or move[0] == "out")
                    if further not in found:
                        found.append(further)
        return tuple([at for at, condition in enumerate(alive) if (condition, True) in found])
