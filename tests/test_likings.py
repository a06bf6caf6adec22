"""Point 64: what is sure of the likings."""

from itertools import permutations

from leavetaking.errors import NoOrder
from leavetaking.likings import Liking, liking, sure_likings
from leavetaking.peeling import is_stuck, peel
from leavetaking.seen import Seen

from tests.helpers import ADA, BOB, CLEO, GUESTS, PromiseCase, plain_orders, some_seen, within

SEEN = Seen(GUESTS, [(ADA, BOB, (ADA, BOB)), (CLEO, BOB, (BOB, CLEO))], [1, 1, 1])


class Likings(PromiseCase):
    def check(self, seen, one, two):
        """The liking against all orders; gives back its word."""
        every = plain_orders(seen)
        ahead = [order for order in every if order.index(one) < order.index(two)]
        word = "none" if not every else "sure" if ahead == every else "open" if ahead else "never"
        kept, broken = peel(seen.tied(one, two)), peel(seen.tied(two, one))
        left = {"sure": broken.left, "never": kept.left, "none": peel(seen).left, "open": ()}[word]
        found = liking(seen, one, two)
        self.assertIsInstance(found, Liking)
        self.same((found.word, found.keeping, found.breaking, found.left), (word, kept.order, broken.order, left))
        self.assertIs(found.keeping is None, word in ("never", "none"))
        self.assertIs(found.breaking is None, word in ("sure", "none"))
        if word in ("sure", "never"):
            self.assertIs(is_stuck(seen.tied(*((two, one) if word == "sure" else (one, two))), left), True)
        return word

    def test_every_word(self):
        for one, two, word in ((BOB, ADA, "sure"), (BOB, CLEO, "sure"), (ADA, BOB, "never"), (CLEO, BOB, "never"),
                               (ADA, CLEO, "open"), (CLEO, ADA, "open")):
            self.assertEqual(self.check(SEEN, one, two), word)
        never = SEEN.tied(ADA, CLEO).tied(CLEO, BOB)
        for one, two in permutations(GUESTS, 2):
            self.assertEqual(self.check(never, one, two), "none")

    def test_fields(self):
        found = liking(SEEN, BOB, ADA)
        self.same((found.word, found.keeping, found.breaking, found.left), ("sure", (BOB, ADA, CLEO), None, (ADA, BOB)))
        found = liking(SEEN, CLEO, BOB)
        self.same((found.word, found.keeping, found.breaking, found.left),
                  ("never", None, (BOB, ADA, CLEO), (BOB, CLEO)))
        found = liking(SEEN, CLEO, ADA)
        self.same((found.word, found.keeping, found.breaking, found.left),
                  ("open", (BOB, CLEO, ADA), (BOB, ADA, CLEO), ()))
        found = liking(SEEN.tied(ADA, BOB), CLEO, ADA)
        self.same((found.word, found.keeping, found.breaking, found.left), ("none", None, None, (ADA, BOB)))

    def test_all_orders(self):
        words = []
        for seen in some_seen(120):
            for one, two in permutations(seen.guests, 2):
                words.append(self.check(seen, one, two))
        for word in ("none", "sure", "never", "open"):
            self.assertGreater(words.count(word), 60)

    def test_twelve_guests(self):
        guests = tuple([f"g{number}" for number in range(12)])
        seen = Seen(guests, [("g0", "g11", guests), ("g3", "g4", guests[:11])], [1] * 12)
        with within(20):
            self.assertEqual(liking(seen, "g4", "g7").word, "sure")
            self.assertEqual(liking(seen, "g4", "g11").word, "never")
            self.assertEqual(liking(seen, "g2", "g7").word, "open")
            found = sure_likings(seen)
        due = [("g4", other) for other in guests if other not in ("g4", "g11")]
        self.same(found, tuple(due + [("g11", other) for other in guests[:11]]))


class Sure(PromiseCase):
    def test_in_order(self):
        self.same(sure_likings(SEEN), ((BOB, ADA), (BOB, CLEO)))
        self.same(sure_likings(SEEN.tied(CLEO, ADA)), ((BOB, ADA), (BOB, CLEO), (CLEO, ADA)))
        seen = Seen((CLEO, ADA, BOB), SEEN.takings[:1], [1, 1, 1], [(BOB, CLEO), (CLEO, ADA)])
        self.same(sure_likings(seen), ((CLEO, ADA), (BOB, CLEO), (BOB, ADA)))

    def test_nothing_sure(self):
        self.same(sure_likings(Seen(GUESTS, (), [1, 1, 1])), ())
        self.same(sure_likings(Seen(GUESTS, SEEN.takings, [2, 1, 2])), ())
        self.same(sure_likings(Seen([ADA], (), [1])), ())

    def test_all_orders(self):
        without = 0
        for seen in some_seen(200):
            every = plain_orders(seen)
            if not every:
                without += 1
                self.refused(NoOrder, sure_likings, seen)
            else:
                due = [(one, two) for one in seen.guests for two in seen.guests if one != two
                       and all(order.index(one) < order.index(two) for order in every)]
                self.same(sure_likings(seen), tuple(due))
        self.assertGreater(without, 30)

    def test_no_order(self):
        self.refused(NoOrder, sure_likings, SEEN.tied(ADA, BOB))
        self.refused(NoOrder, sure_likings, Seen((ADA, BOB), (), (1, 1), [(ADA, BOB), (BOB, ADA)]))
