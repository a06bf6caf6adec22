"""Point 39: the sure order, and the numbers of guests come."""

from itertools import permutations

from leavetaking.casework import first_evening
from leavetaking.errors import NoEvening, UnknownGuest
from leavetaking.evenings import evenings
from leavetaking.houses import House
from leavetaking.stories import Story
from leavetaking.sureorder import coming_numbers, evening_with_number, sure_order

from tests.helpers import (
    ADA, BOB, CLEO, GUESTS, PromiseCase, bounded_stories, come_at, crowd, fitting, plain_events, sample_houses, within,
)

PAIR = House([ADA, BOB])
IN_ADA, IN_BOB, IN_CLEO = [("in", guest) for guest in GUESTS]
OUT_ADA, OUT_BOB, OUT_CLEO = [("out", guest) for guest in GUESTS]


def samples(count):
    """Stories, with and without evenings that fit."""
    yield from [Story(house, book) for house, book in sample_houses()]
    yield from [story for story, _ in bounded_stories(count)]


class SureOrder(PromiseCase):
    def test_the_pairs_in_order(self):
        self.same(sure_order(Story(PAIR, [ADA, BOB])), (
            (IN_ADA, IN_BOB), (IN_ADA, OUT_ADA), (IN_ADA, OUT_BOB), (IN_BOB, OUT_BOB),
        ))
        # Of the guests in house order ada is the second one, and it comes first.
        self.same(sure_order(Story(House([BOB, ADA]), [ADA, BOB], [("before", OUT_ADA, IN_BOB)])), (
            (IN_BOB, OUT_BOB), (IN_ADA, IN_BOB), (IN_ADA, OUT_BOB), (IN_ADA, OUT_ADA), (OUT_ADA, IN_BOB),
            (OUT_ADA, OUT_BOB),
        ))

    def test_only_one_evening(self):
        story = Story(House(GUESTS, pegs=1), (CLEO, ADA, BOB))
        order = [IN_CLEO, OUT_CLEO, IN_ADA, OUT_ADA, IN_BOB, OUT_BOB]
        events = plain_events(story.house)
        due = [(one, two) for one in events for two in events if order.index(one) < order.index(two)]
        self.same(sure_order(story), tuple(due))

    def test_every_pair_against_all_evenings(self):
        without = 0
        for story in samples(20):
            found = [[step[:2] for step in evening] for evening in fitting(story)]
            events = plain_events(story.house)
            if not found:
                without += 1
                self.refused(NoEvening, sure_order, story)
            else:
                due = [(one, two) for one in events for two in events if one != two
                       and all(order.index(one) < order.index(two) for order in found)]
                self.same(sure_order(story), tuple(due))
        self.assertGreater(without, 10)

    def test_no_evening(self):
        for fact in (("chose", ADA, 0), ("hung", IN_ADA, 1, (ADA,)), ("before", IN_BOB, IN_ADA)):
            self.refused(NoEvening, sure_order, Story(PAIR, [ADA, BOB], [fact]))

    def test_greater_houses(self):
        house = crowd(6)
        with within(30):
            found = sure_order(Story(house, house.guests))
        firsts = [(("in", one), (word, two)) for place, one in enumerate(house.guests) for word in ("in", "out")
                  for two in house.guests[place + (word == "in"):]]
        self.same(found, tuple(firsts))
        house = crowd(12)
        told = [("wore", guest, guest) for guest in house.guests]
        with within(30):
            found = sure_order(Story(house, house.guests, told + [("before", ("out", "g3"), ("in", "g4"))]))
        # Each likes the cloaks of those ahead of it better, so it leaves behind all of them.
        for one, two in permutations(house.guests, 2):
            self.assertIs((("out", one), ("out", two)) in found, int(one[1:]) < int(two[1:]))
            self.assertIs((("out", one), ("in", two)) in found, int(one[1:]) <= 3 < int(two[1:]))


class Numbers(PromiseCase):
    def test_evening_with_number(self):
        story = Story(House(GUESTS), (BOB, ADA, CLEO))
        self.same(evening_with_number(story, BOB, 1), (
            ("in", BOB), ("out", BOB, BOB), ("in", ADA), ("out", ADA, ADA), ("in", CLEO), ("out", CLEO, CLEO),
        ))
        self.same(evening_with_number(story, BOB, 2), (
            ("in", BOB), ("in", ADA), ("out", ADA, ADA), ("out", BOB, BOB), ("in", CLEO), ("out", CLEO, CLEO),
        ))
        self.assertIsNone(evening_with_number(story, ADA, 1))
        self.assertIsNone(evening_with_number(story, CLEO, 2))

    def test_it_is_the_first_evening_of_the_story_with_up_to_two_more_facts(self):
        for story in samples(8):
            book = story.book
            for guest in story.house:
                numbers = []
                for number in range(1, len(book) + 1):
                    told = story
                    if book[number - 1] != guest:
                        told = told.told(("before", ("in", book[number - 1]), ("out", guest)))
                    if number < len(book):
                        told = told.told(("before", ("out", guest), ("in", book[number])))
                    found = evening_with_number(story, guest, number)
                    self.same(found, first_evening(told))
                    due = [evening for evening in fitting(story) if come_at(evening, guest) == number]
                    self.assertIs(found is None, not due)
                    if due:
                        self.assertIn(found, due)
                        numbers.append(number)
                if numbers:
                    self.same(coming_numbers(story, guest), tuple(numbers))
                else:
                    self.refused(NoEvening, coming_numbers, story, guest)

    def test_coming_numbers(self):
        story = Story(House(GUESTS), (BOB, ADA, CLEO))
        for guest, due in ((BOB, (1, 2, 3)), (ADA, (2, 3)), (CLEO, (3,))):
            self.same(coming_numbers(story, guest), due)
        self.same(coming_numbers(story.told(("before", OUT_BOB, IN_ADA)), BOB), (1,))
        self.same(coming_numbers(story.told(("before", IN_CLEO, OUT_BOB)), BOB), (3,))
        told = story.told(("before", OUT_BOB, IN_ADA)).told(("wore", ADA, CLEO))
        self.same(coming_numbers(told, ADA), (3,))

    def test_numbers_with_a_gap(self):
        # With two come bob takes ada's cloak, which it likes better: its own hangs until a third one comes.
        story = Story(House(GUESTS), GUESTS, [("bare", OUT_ADA, 1, (BOB,))])
        self.same(coming_numbers(story, ADA), (1, 3))
        self.assertIsNone(evening_with_number(story, ADA, 2))

    def test_numbers_somewhat_beyond_the_bounds(self):
        story = Story(House(GUESTS), (BOB, ADA, CLEO))
        for guest in GUESTS:
            for number in (0, 4, -1, 5):
                self.assertIsNone(evening_with_number(story, guest, number))

    def test_unknown_guest(self):
        for facts in ((), (("chose", ADA, 0),)):
            story = Story(PAIR, [ADA, BOB], facts)
            for name in ("zoe", CLEO, ""):
                self.same(self.refused(UnknownGuest, coming_numbers, story, name).name, name)
                for number in (1, 2, 7):
                    self.same(self.refused(UnknownGuest, evening_with_number, story, name, number).name, name)

    def test_no_evening(self):
        story = Story(PAIR, [ADA, BOB], [("chose", ADA, 0)])
        for guest in (ADA, BOB):
            self.refused(NoEvening, coming_numbers, story, guest)
            self.assertEqual([evening_with_number(story, guest, number) for number in (1, 2)], [None, None])

    def test_a_great_house(self):
        house = crowd(10)
        story = Story(house, house.guests, [("wore", guest, guest) for guest in house.guests[2:]])
        with within(30):
            self.same(coming_numbers(story, "g0"), tuple(range(1, 11)))
            self.same(coming_numbers(story, "g5"), tuple(range(6, 11)))
            told = story.told(("before", ("in", "g7"), ("out", "g0")))
            self.same(coming_numbers(told, "g1"), (2, 3, 4, 5, 6, 7, 8, 9, 10))


class AllEvenings(PromiseCase):
    def test_pairs_of_the_smallest_houses(self):
        for house, book in sample_houses():
            if len(house) < 3:
                orders = [[step[:2] for step in evening] for evening in evenings(house, book)]
                for one, two in permutations(plain_events(house), 2):
                    due = all(order.index(one) < order.index(two) for order in orders)
                    self.assertIs((one, two) in sure_order(Story(house, book)), due)
