"""Points 41, 42 and 44: possible cloaks and guests, sure wearers, best and worst cloaks, own cloaks."""

from leavetaking.errors import NoEvening, UnknownGuest
from leavetaking.houses import House
from leavetaking.stories import Story
from leavetaking.takers import (
    best_cloak, evening_with, own_range, possible_cloaks, possible_guests, sure_wearers, worst_cloak,
)
from leavetaking.wearings import evening_of_wearing

from tests.helpers import (
    ADA, BOB, CLEO, GUESTS, PromiseCase, bounded_stories, crowd, plain_wearings, sample_houses, within,
)

IN_ADA, IN_BOB, IN_CLEO = [("in", guest) for guest in GUESTS]
OUT_ADA, OUT_BOB, OUT_CLEO = [("out", guest) for guest in GUESTS]
STORY = Story(House([CLEO, ADA, BOB]), [ADA, BOB, CLEO])
NOBODY = (
    STORY.told(("chose", ADA, 0)),
    STORY.told(("wore", ADA, BOB)).told(("wore", CLEO, BOB)),
    STORY.told(("before", IN_CLEO, IN_ADA)),
)
STRANGERS = ("zoe", "", "Ada", "ada ", "ad")


def samples(count):
    """Stories, with and without evenings that fit."""
    yield from [Story(house, book) for house, book in sample_houses()]
    yield from [story for story, _ in bounded_stories(count)]


class Possible(PromiseCase):
    def test_cloaks_in_house_order(self):
        for guest in STORY.house:
            self.same(possible_cloaks(STORY, guest), (CLEO, ADA, BOB))
            self.same(possible_guests(STORY, guest), (CLEO, ADA, BOB))
        early = STORY.told(("before", OUT_ADA, IN_CLEO))
        self.same(possible_cloaks(early, ADA), (ADA, BOB))
        self.same(possible_guests(early, CLEO), (CLEO, BOB))
        self.same(possible_cloaks(early, CLEO), (CLEO, BOB))
        self.same(possible_guests(early, ADA), (ADA, BOB))
        self.same(possible_cloaks(early, BOB), (CLEO, ADA, BOB))
        self.same(possible_guests(early, BOB), (CLEO, ADA, BOB))

    def test_one_cloak(self):
        told = STORY.told(("wore", ADA, CLEO)).told(("before", OUT_BOB, IN_CLEO))
        self.same([possible_cloaks(told, guest) for guest in GUESTS], [(CLEO,), (ADA,), (BOB,)])
        self.same([possible_guests(told, guest) for guest in GUESTS], [(BOB,), (CLEO,), (ADA,)])

    def test_no_evening(self):
        for story in NOBODY:
            for one in GUESTS:
                self.same((possible_cloaks(story, one), possible_guests(story, one)), ((), ()))
                for two in GUESTS:
                    self.assertIsNone(evening_with(story, one, two))

    def test_all_evenings_of_small_houses(self):
        for story in samples(20):
            guests = story.house.guests
            wearings = plain_wearings(story)
            for place, guest in enumerate(guests):
                due = [cloak for cloak in guests if any(wearing[place] == cloak for wearing in wearings)]
                self.same(possible_cloaks(story, guest), tuple(due))
                due = [other for at, other in enumerate(guests) if any(wearing[at] == guest for wearing in wearings)]
                self.same(possible_guests(story, guest), tuple(due))
                for cloak in guests:
                    worn = [wearing for wearing in wearings if wearing[place] == cloak]
                    due = evening_of_wearing(story, worn[0]) if worn else None
                    self.same(evening_with(story, guest, cloak), due)

    def test_evening_with(self):
        # The first possible wearing in which ada wears cleo's cloak: bob has its own and cleo ada's.
        self.same(evening_with(STORY, ADA, CLEO), (
            ("in", ADA), ("in", BOB), ("in", CLEO), ("out", ADA, CLEO), ("out", CLEO, ADA), ("out", BOB, BOB),
        ))
        self.same(evening_with(STORY.told(("spared", CLEO, ADA)), ADA, CLEO), (
            ("in", ADA), ("in", BOB), ("out", BOB, ADA), ("in", CLEO), ("out", ADA, CLEO), ("out", CLEO, BOB),
        ))

    def test_unknown_guests(self):
        for story in (STORY,) + NOBODY:
            for name in STRANGERS:
                self.same(self.refused(UnknownGuest, possible_cloaks, story, name).name, name)
                self.same(self.refused(UnknownGuest, possible_guests, story, name).name, name)
                self.same(self.refused(UnknownGuest, evening_with, story, name, ADA).name, name)
                self.same(self.refused(UnknownGuest, evening_with, story, ADA, name).name, name)
                self.same(self.refused(UnknownGuest, evening_with, story, name, "yves").name, name)
                self.same(self.refused(UnknownGuest, evening_with, story, "yves", name).name, "yves")

    def test_great_houses(self):
        house = crowd(30)
        story = Story(house, house.guests, [("wore", guest, guest) for guest in house.guests[:26]])
        last = house.guests[26:]
        with within(20):
            for guest in last:
                self.same(possible_cloaks(story, guest), last)
                self.same(possible_guests(story, guest), last)
            self.same(possible_cloaks(story, "g7"), ("g7",))
            self.assertIsNone(evening_with(story, "g7", "g8"))
            self.assertEqual(evening_with(story, "g29", "g26")[-1], ("out", "g28", "g29"))
            self.same(sure_wearers(story), house.guests[:26] + (None,) * 4)
            self.same(own_range(story), (26, 30))
            self.same((best_cloak(story, "g28"), worst_cloak(story, "g28")), ("g26", "g29"))
        with within(20):
            six = crowd(6)
            self.same(possible_cloaks(Story(six, six.guests), "g3"), six.guests)
            self.same(own_range(Story(six, six.guests)), (0, 6))


class Sure(PromiseCase):
    def test_sure_wearers(self):
        self.same(sure_wearers(STORY), (None, None, None))
        self.same(sure_wearers(STORY.told(("wore", ADA, CLEO))), (None, CLEO, None))
        self.same(sure_wearers(STORY.told(("wore", ADA, CLEO)).told(("spared", BOB, BOB))), (BOB, CLEO, ADA))
        # What a fact does not name may be sure, too.
        self.same(sure_wearers(STORY.told(("before", OUT_ADA, IN_BOB))), (None, ADA, None))
        self.same(sure_wearers(Story(House(GUESTS, pegs=1), (CLEO, ADA, BOB))), GUESTS)

    def test_best_and_worst(self):
        early = STORY.told(("before", OUT_ADA, IN_CLEO))
        self.same((best_cloak(early, ADA), worst_cloak(early, ADA)), (ADA, BOB))
        self.same((best_cloak(early, BOB), worst_cloak(early, BOB)), (CLEO, BOB))
        self.same((best_cloak(early, CLEO), worst_cloak(early, CLEO)), (CLEO, BOB))

    def test_alike_cloaks(self):
        house = House([CLEO, ADA, BOB], worth=[-1, -1, -1])
        story = Story(house, (ADA, BOB, CLEO))
        for guest in house:
            self.same((best_cloak(story, guest), worst_cloak(story, guest)), (CLEO, CLEO))
        # The best ones of ada are not possible, and of bob the first one is not.
        early = Story(house.liking(ADA, [5, 2, 2]).liking(BOB, [7, 7, 3]), story.book, [("before", OUT_ADA, IN_CLEO)])
        self.same((best_cloak(early, ADA), worst_cloak(early, ADA)), (ADA, ADA))
        told = early.told(("before", OUT_BOB, IN_CLEO)).told(("before", OUT_BOB, IN_CLEO))
        self.same((best_cloak(told, BOB), worst_cloak(told, BOB)), (ADA, BOB))
        self.same((best_cloak(told, CLEO), worst_cloak(told, CLEO)), (CLEO, CLEO))

    def test_great_numbers(self):
        house = House([ADA, BOB], worth=[10 ** 40, 10 ** 40 + 1]).choosing(ADA, 2).choosing(BOB, 2)
        self.same((best_cloak(Story(house, [ADA, BOB]), ADA), worst_cloak(Story(house, [ADA, BOB]), ADA)), (BOB, ADA))

    def test_all_evenings_of_small_houses(self):
        without = 0
        for story in samples(20):
            guests = story.house.guests
            wearings = plain_wearings(story)
            if not wearings:
                without += 1
                self.refused(NoEvening, sure_wearers, story)
                self.refused(NoEvening, own_range, story)
                for guest in guests:
                    self.refused(NoEvening, best_cloak, story, guest)
                    self.refused(NoEvening, worst_cloak, story, guest)
                continue
            columns = list(zip(*wearings))
            self.same(sure_wearers(story), tuple([column[0] if len(set(column)) == 1 else None for column in columns]))
            for guest, column in zip(guests, columns):
                worth = dict(zip(guests, story.house.taste(guest)))
                cloaks = [cloak for cloak in guests if cloak in column]
                self.same(best_cloak(story, guest), sorted(cloaks, key=lambda cloak: -worth[cloak])[0])
                self.same(worst_cloak(story, guest), sorted(cloaks, key=lambda cloak: worth[cloak])[0])
            numbers = [sum([one == two for one, two in zip(guests, wearing)]) for wearing in wearings]
            self.same(own_range(story), (min(numbers), max(numbers)))
        self.assertGreater(without, 10)

    def test_no_evening(self):
        for story in NOBODY:
            self.refused(NoEvening, sure_wearers, story)
            self.refused(NoEvening, own_range, story)
            for guest in GUESTS:
                self.refused(NoEvening, best_cloak, story, guest)
                self.refused(NoEvening, worst_cloak, story, guest)

    def test_unknown_guests_ahead_of_no_evening(self):
        for story in (STORY,) + NOBODY:
            for name in STRANGERS:
                self.same(self.refused(UnknownGuest, best_cloak, story, name).name, name)
                self.same(self.refused(UnknownGuest, worst_cloak, story, name).name, name)


class Own(PromiseCase):
    def test_own_range(self):
        self.same(own_range(STORY), (0, 3))
        self.same(own_range(STORY.told(("spared", ADA, ADA))), (0, 1))
        self.same(own_range(STORY.told(("wore", ADA, ADA))), (1, 3))
        self.same(own_range(STORY.told(("before", OUT_ADA, IN_BOB)).told(("wore", BOB, CLEO))), (1, 1))

    def test_cloaks_that_belong_to_a_guest_are_not_those_that_it_brings(self):
        story = Story(House([ADA, BOB], brings=[BOB, ADA], pegs=1), (BOB, ADA))
        self.same((own_range(story), sure_wearers(story)), ((0, 0), (BOB, ADA)))
        self.same(own_range(Story(House([ADA], pegs=1), (ADA,))), (1, 1))
