"""Points 2 to 4: what holds for all functions alike."""

from copy import deepcopy

from leavetaking.books import events_of, is_book
from leavetaking.choices import choices
from leavetaking.errors import BadBook, BadFact, NotLet
from leavetaking.evenings import book_of, evenings, is_evening, place_of, row_of, walk, wearing_of
from leavetaking.facts import contrary
from leavetaking.fitting import fits, misfit
from leavetaking.houses import House
from leavetaking.meanings import holds
from leavetaking.standings import after_step, hanging, next_steps, present
from leavetaking.stories import Story

from tests.helpers import (
    ADA, BOB, CLEO, GUESTS, PromiseCase, TURNED, TURNED_BOOK, TURNED_EVENING, TURNED_WEARING, listed,
)

STORY = Story(TURNED, TURNED_BOOK, [("wore", ADA, BOB), ("chose", BOB, 2)])
STANDING = (3, ((BOB, CLEO),))
HUNG = ("hung", ("out", ADA), 1, (BOB, CLEO))


def all_evenings(house, book):
    """The evenings of the generator in a tuple."""
    return tuple(evenings(house, book))


# A function, the house or story that it is passed first, and what it is passed behind that.
CALLS = (
    (is_book, TURNED, (TURNED_BOOK,)),
    (events_of, TURNED, ()),
    (hanging, TURNED, (TURNED_BOOK, STANDING)),
    (present, TURNED, (TURNED_BOOK, STANDING)),
    (next_steps, TURNED, (TURNED_BOOK, STANDING)),
    (after_step, TURNED, (TURNED_BOOK, STANDING, ("out", CLEO, ADA))),
    (walk, TURNED, (TURNED_BOOK, TURNED_EVENING[:4])),
    (is_evening, TURNED, (TURNED_BOOK, TURNED_EVENING)),
    (all_evenings, TURNED, (TURNED_BOOK,)),
    (wearing_of, TURNED, (TURNED_EVENING,)),
    (holds, TURNED, (TURNED_EVENING, HUNG)),
    (choices, TURNED, (TURNED_WEARING, HUNG)),
    (Story.told, STORY, (HUNG,)),
    (Story.__contains__, STORY, (("chose", BOB, 2),)),
    (misfit, STORY, (TURNED_EVENING,)),
    (fits, STORY, (TURNED_EVENING,)),
    (House.liking, TURNED, (ADA, (1, 2, 3))),
    (House.bringing, TURNED, ((CLEO, ADA, BOB),)),
)
CALLS_WITHOUT_HOUSE = (
    (book_of, (TURNED_EVENING,)),
    (row_of, (TURNED_EVENING,)),
    (place_of, (TURNED_EVENING, ("out", CLEO))),
    (contrary, (HUNG,)),
    (House, (GUESTS,)),
)


class Sequences(PromiseCase):
    def calls(self):
        for call, first, rest in CALLS:
            yield lambda values, call=call, first=first: call(first, *values), rest
        for call, values in CALLS_WITHOUT_HOUSE:
            yield lambda values, call=call: call(*values), values

    def check_tuples(self, value):
        """Nothing in the value is a list; houses and stories give their fields."""
        if isinstance(value, House):
            value = (value.guests, value.brings, [value.taste(guest) for guest in value])
            self.check_tuples(value[0] + value[1] + tuple(value[2]))
        elif isinstance(value, Story):
            self.check_tuples((value.book, value.facts, value.wearers))
        elif isinstance(value, tuple):
            for item in value:
                self.check_tuples(item)
        else:
            self.assertNotIsInstance(value, list)

    def test_lists_are_taken_at_every_level_and_tuples_given_back(self):
        for call, values in self.calls():
            found = call(values)
            self.check_tuples(found)
            self.check_tuples(call(listed(values)))
            self.assertEqual(call(listed(values)), found)
            self.assertIs(type(call(listed(values))), type(found))

    def test_lists_of_tuples_and_tuples_of_lists(self):
        for call, values in self.calls():
            found = call(values)
            self.assertEqual(call([list(value) if isinstance(value, tuple) else value for value in values]), found)
            mixed = [tuple(listed(value)) if isinstance(value, tuple) else value for value in values]
            self.check_tuples(call(mixed))
            self.assertEqual(call(mixed), found)

    def test_no_argument_is_changed(self):
        for call, values in self.calls():
            passed = listed(values)
            kept = deepcopy(passed)
            call(passed)
            self.assertEqual(passed, kept)

    def test_a_later_change_to_an_argument_changes_no_answer(self):
        for call, values in self.calls():
            passed = listed(values)
            found = call(passed)
            for value in passed:
                if isinstance(value, list):
                    for item in value:
                        if isinstance(item, list):
                            item.clear()
                    value.clear()
            self.assertEqual(found, call(values))

    def test_the_same_question_has_the_same_answer(self):
        for call, values in self.calls():
            self.assertEqual(call(values), call(values))

    def test_the_same_object_may_be_passed_twice(self):
        names = [ADA, BOB, CLEO]
        house = House(names, brings=names)
        self.assertEqual(house, House(GUESTS))
        self.assertIs(is_book(house, names), True)
        story = Story(house, names)
        self.assertEqual(len(story + story), 0)
        event = ["in", ADA]
        self.same(contrary(["after", ["out", ADA], 1, [event]]), ("ahead", ("out", ADA), 1, (("in", ADA),)))
        due = choices(house, GUESTS, ("there", ("out", ADA), 3, GUESTS))
        self.same(choices(house, names, ["there", ["out", ADA], 3, names]), due)


class Errors(PromiseCase):
    def test_the_fields_of_errors_have_tuples(self):
        error = self.refused(NotLet, after_step, TURNED, listed(TURNED_BOOK), [0, []], ["out", "zoe", ADA])
        self.same(error.step, ("out", "zoe", ADA))
        wrong = ["after", ["out", ADA], 1, [["in", "zoe"], ["in", ADA]]]
        due = ("after", ("out", ADA), 1, (("in", "zoe"), ("in", ADA)))
        self.same(self.refused(BadFact, Story, TURNED, TURNED_BOOK, [wrong]).fact, due)
        error = self.refused(BadFact, STORY.told, wrong)
        wrong[3].clear()
        self.same(error.fact, due)

    def test_true_and_false_are_no_whole_numbers(self):
        for wrong in (True, False):
            for fact in (("chose", ADA, wrong), ("hung", ("in", ADA), wrong, (ADA,))):
                self.assertIs(type(self.refused(BadFact, STORY.told, fact).fact[2]), bool)

    def test_a_refused_call_changes_nothing(self):
        story = Story(TURNED, TURNED_BOOK, [HUNG])
        self.refused(BadFact, story.told, ("chose", ADA, -1))
        self.assertEqual(story, Story(TURNED, TURNED_BOOK, [HUNG]))
        self.assertIs(story.house == TURNED, True)


class Generators(PromiseCase):
    def test_errors_are_raised_when_the_first_item_is_asked_for(self):
        found = evenings(TURNED, [ADA])
        with self.assertRaises(BadBook):
            next(found)

    def test_arguments_are_copied_when_the_first_item_is_asked_for(self):
        book = list(TURNED_BOOK)
        found = evenings(TURNED, book)
        first = next(found)
        book.reverse()
        self.assertEqual((first,) + tuple(found), all_evenings(TURNED, TURNED_BOOK))
        book = [ADA]
        found = evenings(TURNED, book)
        book[:] = TURNED_BOOK
        self.assertEqual(tuple(found), all_evenings(TURNED, TURNED_BOOK))

    def test_two_generators_do_not_disturb_each_other(self):
        one, two = evenings(TURNED, TURNED_BOOK), evenings(TURNED, TURNED_BOOK)
        pairs = list(zip(one, two))
        self.assertEqual([first for first, _ in pairs], [second for _, second in pairs])
        self.assertEqual(len(pairs), len(all_evenings(TURNED, TURNED_BOOK)))
