"""Points 6 to 8: houses."""

from leavetaking.errors import BadBrings, BadDepth, BadName, BadPegs, BadTaste, TakenName, UnknownGuest
from leavetaking.houses import House

from tests.helpers import ADA, BOB, CLEO, GUESTS, PromiseCase, crowd


class Making(PromiseCase):
    def test_what_a_house_has_without_further_arguments(self):
        house = House([BOB, ADA, CLEO])
        self.same(house.guests, (BOB, ADA, CLEO))
        self.same(house.brings, (BOB, ADA, CLEO))
        self.assertIsNone(house.pegs)
        for guest in (BOB, ADA, CLEO):
            self.same(house.taste(guest), (3, 2, 1))
            self.same(house.depth(guest), 1)
            self.same(house.brought(guest), guest)
            self.same(house.bringer(guest), guest)

    def test_none_stands_for_what_is_left_out(self):
        self.assertEqual(House(GUESTS, worth=None, brings=None, pegs=None), House(GUESTS))

    def test_one_guest(self):
        house = House(["a"])
        self.same((house.guests, house.brings, len(house)), (("a",), ("a",), 1))
        self.same((house.taste("a"), house.better("a", "a")), ((1,), ()))

    def test_thirty_guests(self):
        house = crowd(30)
        self.assertEqual(len(house), 30)
        for guest in house.guests:
            self.same(house.taste(guest), tuple(range(30, 0, -1)))
        self.same(house.better("g29", "g3"), ("g0", "g1", "g2"))

    def test_worth_is_the_taste_of_every_guest(self):
        worth = (-3, 0, 10 ** 50)
        house = House(GUESTS, worth=list(worth))
        for guest in GUESTS:
            self.same(house.taste(guest), worth)
            self.same(house.better(guest, ADA), (BOB, CLEO))
            self.same(house.better(guest, BOB), (CLEO,))
            self.same(house.better(guest, CLEO), ())

    def test_brings_and_pegs_are_kept(self):
        house = House(GUESTS, brings=[CLEO, ADA, BOB], pegs=2)
        self.same((house.brings, house.pegs), ((CLEO, ADA, BOB), 2))
        self.same([house.brought(guest) for guest in GUESTS], [CLEO, ADA, BOB])
        self.same([house.bringer(cloak) for cloak in GUESTS], [BOB, CLEO, ADA])

    def test_one_peg_and_very_many(self):
        self.assertEqual(House(GUESTS, pegs=1).pegs, 1)
        self.assertEqual(House(GUESTS, pegs=10 ** 30).pegs, 10 ** 30)

    def test_a_house_copies_its_arguments(self):
        guests, worth, brings = [ADA, BOB], [5, 6], [BOB, ADA]
        house = House(guests, worth=worth, brings=brings)
        self.assertEqual((guests, worth, brings), ([ADA, BOB], [5, 6], [BOB, ADA]))
        guests[0], worth[0], brings[0] = "zoe", 0, "zoe"
        guests.append("yan")
        self.same((house.guests, house.taste(ADA), house.brings), ((ADA, BOB), (5, 6), (BOB, ADA)))
        self.assertEqual(len(house), 2)


class MakingErrors(PromiseCase):
    def test_bad_name_for_the_first_item_that_is_no_name(self):
        wrong = ((["Ada"], "Ada"), ([""], ""), ([ADA, "b b", "C"], "b b"), ([ADA, "a12345678"], "a12345678"))
        for guests, name in wrong:
            self.same(self.refused(BadName, House, guests).name, name)

    def test_taken_name_for_the_first_item_equal_to_one_ahead(self):
        for guests, name in (([ADA, ADA], ADA), ([ADA, BOB, CLEO, BOB, ADA], BOB), ([ADA, BOB, BOB, BOB], BOB)):
            self.same(self.refused(TakenName, House, guests).name, name)

    def test_bad_taste(self):
        for worth in ([], [1], [1, 2], [1, 2, 3, 4]):
            self.refused(BadTaste, House, GUESTS, worth=worth)

    def test_bad_brings(self):
        for brings in ([], [ADA, BOB], [ADA, BOB, BOB], [ADA, BOB, "zoe"], [ADA, BOB, ""], [ADA, BOB, CLEO, CLEO],
                       [ADA, BOB, CLEO, "zoe"]):
            self.refused(BadBrings, House, GUESTS, brings=brings)

    def test_bad_pegs(self):
        for pegs in (0, -1, -10 ** 20):
            self.same(self.refused(BadPegs, House, GUESTS, pegs=pegs).pegs, pegs)

    def test_the_order_in_which_the_errors_are_due(self):
        wrong = {"worth": [1], "brings": [ADA], "pegs": 0}
        self.assertEqual(self.refused(BadName, House, [ADA, ADA, "B"], **wrong).name, "B")
        self.assertEqual(self.refused(TakenName, House, [ADA, ADA, BOB], **wrong).name, ADA)
        self.refused(BadTaste, House, GUESTS, **wrong)
        self.refused(BadBrings, House, GUESTS, brings=[ADA], pegs=0)
        self.refused(BadTaste, House, GUESTS, worth=[1], pegs=0)
        self.refused(BadName, House, ["B"], pegs=0)
        self.refused(TakenName, House, [ADA, ADA], brings=[ADA, ADA])


class Deeds(PromiseCase):
    def setUp(self):
        self.house = House(GUESTS, worth=[1, 5, 3], brings=[BOB, CLEO, ADA], pegs=2)

    def check_old_house(self):
        self.same((self.house.guests, self.house.brings, self.house.pegs), (GUESTS, (BOB, CLEO, ADA), 2))
        self.same([self.house.taste(guest) for guest in GUESTS], [(1, 5, 3)] * 3)
        self.same([self.house.depth(guest) for guest in GUESTS], [1, 1, 1])

    def test_liking_changes_the_taste_of_one_guest(self):
        house = self.house.choosing(CLEO, 4).liking(BOB, [7, -7, 7])
        self.assertIsInstance(house, House)
        self.same([house.taste(guest) for guest in GUESTS], [(1, 5, 3), (7, -7, 7), (1, 5, 3)])
        self.same([house.depth(guest) for guest in GUESTS], [1, 1, 4])
        self.same((house.guests, house.brings, house.pegs), (GUESTS, (BOB, CLEO, ADA), 2))
        self.same(house.liking(ADA, [0, 0, 1]).taste(BOB), (7, -7, 7))
        self.same(house.liking(BOB, [0, 0, 1]).taste(BOB), (0, 0, 1))
        self.check_old_house()

    def test_liking_copies_the_taste(self):
        worth = [9, 8, 7]
        house = self.house.liking(ADA, worth)
        worth[0] = 0
        self.same(house.taste(ADA), (9, 8, 7))

    def test_choosing_changes_the_depth_of_one_guest(self):
        house = self.house.liking(ADA, [0, 0, 0]).choosing(BOB, 3)
        self.assertIsInstance(house, House)
        self.same([house.depth(guest) for guest in GUESTS], [1, 3, 1])
        self.same([house.taste(guest) for guest in GUESTS], [(0, 0, 0), (1, 5, 3), (1, 5, 3)])
        self.same((house.guests, house.brings, house.pegs), (GUESTS, (BOB, CLEO, ADA), 2))
        self.same([house.choosing(ADA, 10 ** 20).depth(guest) for guest in GUESTS], [10 ** 20, 3, 1])
        self.same(house.choosing(BOB, 1).depth(BOB), 1)
        self.check_old_house()

    def test_bringing_replaces_what_is_brought(self):
        shaped = self.house.liking(ADA, [0, 0, 0]).choosing(BOB, 3)
        brings = [CLEO, ADA, BOB]
        house = shaped.bringing(brings)
        brings[0] = "zoe"
        self.same((house.guests, house.brings, house.pegs), (GUESTS, (CLEO, ADA, BOB), 2))
        self.same((house.brought(ADA), house.bringer(ADA)), (CLEO, BOB))
        self.same((house.taste(ADA), house.taste(BOB), house.depth(BOB)), ((0, 0, 0), (1, 5, 3), 3))
        self.same(house.bringing(None).brings, GUESTS)
        self.same(shaped.brings, (BOB, CLEO, ADA))
        self.check_old_house()

    def test_with_pegs_replaces_the_pegs(self):
        shaped = self.house.liking(ADA, [0, 0, 0]).choosing(BOB, 3)
        house = shaped.with_pegs(1)
        self.same((house.guests, house.brings, house.pegs), (GUESTS, (BOB, CLEO, ADA), 1))
        self.same((house.taste(ADA), house.taste(BOB), house.depth(BOB)), ((0, 0, 0), (1, 5, 3), 3))
        self.assertIsNone(house.with_pegs(None).pegs)
        self.same(shaped.pegs, 2)
        self.check_old_house()

    def test_unknown_guests_are_refused_ahead_of_all_else(self):
        self.same(self.refused(UnknownGuest, self.house.liking, "zoe", [1]).name, "zoe")
        self.same(self.refused(UnknownGuest, self.house.choosing, "", 0).name, "")
        self.refused(UnknownGuest, self.house.liking, "Ada", [1, 2, 3])
        self.refused(UnknownGuest, self.house.choosing, "adaa", 2)

    def test_wrong_tastes_depths_cloaks_and_pegs(self):
        for worth in ([], [1, 2], [1, 2, 3, 4]):
            self.refused(BadTaste, self.house.liking, ADA, worth)
        for depth in (0, -1, -10 ** 20):
            self.same(self.refused(BadDepth, self.house.choosing, ADA, depth).depth, depth)
        for brings in ([], [ADA, BOB], [ADA, ADA, BOB], [ADA, BOB, "zoe"], [ADA, BOB, CLEO, ADA]):
            self.refused(BadBrings, self.house.bringing, brings)
        for pegs in (0, -4):
            self.same(self.refused(BadPegs, self.house.with_pegs, pegs).pegs, pegs)
        self.check_old_house()


class Asking(PromiseCase):
    def test_better_has_only_cloaks_with_greater_numbers_in_house_order(self):
        house = House(["d", "c", "b", "a"], worth=[2, 1, 2, 3]).liking("b", [-1, -1, -2, -10 ** 40])
        self.same(house.better("d", "d"), ("a",))
        self.same(house.better("d", "c"), ("d", "b", "a"))
        self.same(house.better("d", "b"), ("a",))
        self.same(house.better("d", "a"), ())
        self.same(house.better("b", "a"), ("d", "c", "b"))
        self.same(house.better("b", "b"), ("d", "c"))
        self.same(house.better("b", "c"), ())

    def test_unknown_names_are_refused(self):
        house = House(GUESTS)
        for ask in (house.taste, house.depth, house.brought, house.bringer):
            for name in ("zoe", "", "Ada", "ad"):
                self.same(self.refused(UnknownGuest, ask, name).name, name)
        self.same(self.refused(UnknownGuest, house.better, "yan", "zoe").name, "yan")
        self.same(self.refused(UnknownGuest, house.better, "yan", ADA).name, "yan")
        self.same(self.refused(UnknownGuest, house.better, ADA, "zoe").name, "zoe")

    def test_len_iteration_and_in(self):
        house = House([CLEO, ADA, BOB])
        self.assertEqual(len(house), 3)
        self.assertEqual([list(house), list(house)], [[CLEO, ADA, BOB]] * 2)
        for value, due in ((ADA, True), (CLEO, True), ("zoe", False), ("", False), ("Ada", False), ("a", False)):
            self.assertIs(value in house, due)


class Equality(PromiseCase):
    def test_equal_houses(self):
        one = House(GUESTS, brings=[BOB, ADA, CLEO], pegs=3).liking(ADA, [1, 2, 3]).choosing(BOB, 2)
        two = House(list(GUESTS), pegs=3).choosing(BOB, 2).bringing([BOB, ADA, CLEO]).liking(ADA, (1, 2, 3))
        self.assertIs(one == two, True)
        self.assertIs(one != two, False)
        self.assertIs(House(GUESTS) == House(GUESTS, worth=[3, 2, 1], brings=GUESTS), True)
        self.assertIs(one == one.liking(BOB, [9, 9, 9]).liking(BOB, [3, 2, 1]), True)

    def test_each_difference_counts(self):
        house = House(GUESTS, pegs=3)
        others = (
            House([ADA, BOB], pegs=3),
            House([ADA, CLEO, BOB], pegs=3),
            House([ADA, BOB, "zoe"], pegs=3),
            House(GUESTS, worth=[30, 20, 10], pegs=3),
            house.liking(CLEO, [3, 2, 0]),
            house.choosing(CLEO, 2),
            house.bringing([ADA, CLEO, BOB]),
            house.with_pegs(2),
            house.with_pegs(None),
        )
        for other in others:
            self.assertIs(house == other, False)
            self.assertIs(other == house, False)
            self.assertIs(house != other, True)

    def test_the_order_of_the_guests_counts_though_all_else_is_alike(self):
        one = House([ADA, BOB], worth=[1, 1], brings=[ADA, BOB])
        self.assertIs(one == House([BOB, ADA], worth=[1, 1], brings=[ADA, BOB]), False)

    def test_a_house_equals_no_value_that_is_no_house(self):
        house = House(GUESTS)
        for value in (None, True, 3, "ada", GUESTS, list(GUESTS), {}, object(), House):
            self.assertIs(house == value, False)
            self.assertIs(value == house, False)
            self.assertIs(house != value, True)
