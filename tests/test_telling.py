"""Point 43: guests that tell the wearing."""

from itertools import product

from leavetaking.errors import UnknownGuest
from leavetaking.houses import House
from leavetaking.stories import Story
from leavetaking.telling import do_tell, telling_guests

from tests.helpers import (
    ADA, BOB, CLEO, GUESTS, PromiseCase, bounded_stories, crowd, lots_from, plain_wearings, sample_houses, within,
)

OUT_ADA, OUT_BOB, OUT_CLEO = [("out", guest) for guest in GUESTS]
STORY = Story(House([CLEO, ADA, BOB]), [ADA, BOB, CLEO])
NOBODY = (STORY.told(("chose", ADA, 0)), STORY.told(("wore", ADA, BOB)).told(("wore", CLEO, BOB)))
ONE = (STORY.told(("before", OUT_ADA, ("in", BOB))).told(("spared", CLEO, BOB)), Story(House([ADA]), [ADA]))


def is_telling(house, wearings, guests):
    """Whether the guests tell the wearing, read off point 43."""
    places = [house.guests.index(guest) for guest in guests]
    return not any(one != two and all(one[place] == two[place] for place in places)
                   for one, two in product(wearings, wearings))


class Telling(PromiseCase):
    def tells(self, story, guests, due):
        self.same(do_tell(story, guests), due)
        self.same(do_tell(story, list(guests)), due)

    def test_do_tell(self):
        # Ada wears its own cloak or cleo's, and whoever does not wear cleo's tells nothing by that.
        story = STORY.told(("before", ("in", CLEO), OUT_ADA)).told(("spared", ADA, BOB)).told(("spared", CLEO, CLEO))
        self.assertEqual(plain_wearings(story), [(ADA, CLEO, BOB), (BOB, CLEO, ADA), (BOB, ADA, CLEO)])
        self.tells(story, (BOB,), True)
        for guests in ((), (ADA,), (CLEO,), (ADA, ADA)):
            self.tells(story, guests, False)
        for guests in ((CLEO, ADA), (ADA, CLEO), (ADA, BOB), (BOB, CLEO), (BOB, BOB), GUESTS, GUESTS * 2):
            self.tells(story, guests, True)
        self.same(telling_guests(story), (BOB,))

    def test_one_wearing(self):
        for story in ONE:
            self.assertEqual(len(plain_wearings(story)), 1)
            for guests in ((), (ADA,), (ADA, ADA)):
                self.tells(story, guests, True)
            self.same(telling_guests(story), ())

    def test_no_wearing(self):
        for story in NOBODY:
            for guests in ((), (BOB,), (ADA, ADA), GUESTS):
                self.tells(story, guests, True)
            self.same(telling_guests(story), ())

    def test_of_several_lots_the_first_one(self):
        self.same(telling_guests(STORY), (CLEO, ADA))
        for guests in ((CLEO, ADA), (CLEO, BOB), (ADA, BOB), (BOB, CLEO)):
            self.tells(STORY, guests, True)
        # Each of two guests tells it, and the third one does not.
        self.same(telling_guests(STORY.told(("wore", CLEO, ADA))), (ADA,))
        self.same(telling_guests(STORY.told(("wore", BOB, ADA))), (CLEO,))
        self.same(telling_guests(STORY.told(("wore", ADA, ADA))), (CLEO,))

    def test_the_smallest_lot_is_not_the_first_one(self):
        # Bob alone tells it, cleo and ada tell it together.
        story = STORY.told(("spared", ADA, BOB)).told(("spared", CLEO, CLEO))
        self.assertIs(do_tell(story, [CLEO, ADA]), True)
        self.same(telling_guests(story), (BOB,))

    def test_all_evenings_of_small_houses(self):
        sizes = set()
        stories = [Story(house, book) for house, book in sample_houses()]
        for story in stories + [story for story, _ in bounded_stories(20)]:
            wearings = plain_wearings(story)
            lots = lots_from(story.house.guests)
            telling = [lot for lot in lots if is_telling(story.house, wearings, lot)]
            for lot in lots:
                self.tells(story, lot, lot in telling)
                self.tells(story, lot[::-1] + lot, lot in telling)
            self.same(telling_guests(story), telling[0])
            sizes.add(len(telling[0]))
        self.assertEqual(sizes, {0, 1, 2})

    def test_a_house_of_four(self):
        house = crowd(4)
        out = [("out", guest) for guest in house.guests]
        for facts in ((), (("wore", "g2", "g0"),), (("before", out[0], ("in", "g2")),), (("chose", "g1", 0),),
                      (("spared", "g0", "g0"), ("spared", "g1", "g1"), ("spared", "g2", "g2"), ("spared", "g3", "g3"))):
            story = Story(house, house.guests, facts)
            wearings = plain_wearings(story)
            telling = [lot for lot in lots_from(house.guests) if is_telling(house, wearings, lot)]
            self.same(telling_guests(story), telling[0])
            for lot in lots_from(house.guests):
                self.tells(story, lot, lot in telling)

    def test_unknown_guests(self):
        for story in (STORY,) + NOBODY + ONE:
            for name in ("zoe", "", "Ada"):
                for guests in ((name,), (name, "yves"), (ADA, ADA, name, "yves")):
                    self.same(self.refused(UnknownGuest, do_tell, story, guests).name, name)

    def test_great_houses(self):
        house = crowd(30)
        story = Story(house, house.guests, [("wore", guest, guest) for guest in house.guests[:26]])
        with within(20):
            self.same(telling_guests(story), ("g26", "g27", "g28"))
            self.tells(story, house.guests[:28], False)
            self.tells(story, house.guests[27:], True)
        with within(20):
            six = crowd(6)
            self.same(telling_guests(Story(six, six.guests)), six.guests[:5])
