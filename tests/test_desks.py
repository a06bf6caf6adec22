"""Points 22 to 25: desks, their blocks, and actions carried out at them."""

from leavetaking.desks import Attempt, Desk, Supposing, Trial, perform
from leavetaking.errors import BadFact, BadNumber, Failed, NothingToUndo
from leavetaking.houses import House
from leavetaking.stories import Story

from tests.helpers import ADA, BOB, CLEO, GUESTS, PromiseCase, listed

HOUSE = House(GUESTS)
BOOK = (BOB, ADA, CLEO)
WORE = ("wore", ADA, BOB)
HUNG = ("hung", ("out", ADA), 1, (BOB, CLEO))
CHOSE = ("chose", CLEO, 2)
LATE = ("before", ("out", ADA), ("in", CLEO))
STRANGE = ("wore", ADA, "zoe")
UNLIKE = (STRANGE, ("chose", ADA, -1), ("chose", ADA, True), (), ("before", ("in", ADA), ("in", ADA)))
TELL_HUNG, TELL_CHOSE, TELL_LATE = ("tell", HUNG), ("tell", CHOSE), ("tell", LATE)


class Oops(Exception):
    """An error that is none of the program's."""


class DeskCase(PromiseCase):
    def setUp(self):
        self.desk = Desk(Story(HOUSE, BOOK, [WORE]))

    def at(self, facts, deeds=(), desk=None):
        """The desk has these facts and deeds."""
        desk = self.desk if desk is None else desk
        self.assertIsInstance(desk.story, Story)
        self.assertEqual((desk.story.house, desk.story.book), (HOUSE, BOOK))
        self.same((desk.story.facts, desk.deeds, len(desk)), (tuple(facts), tuple(deeds), len(deeds)))


class Deeds(DeskCase):
    def test_a_new_desk(self):
        self.at([WORE])
        self.at([], (), Desk(Story(HOUSE, BOOK)))

    def test_tell_and_drop(self):
        self.assertIsNone(self.desk.do(TELL_HUNG))
        self.at([WORE, HUNG], [TELL_HUNG])
        self.assertIsNone(self.desk.do(("drop", 0)))
        self.at([HUNG], [TELL_HUNG, ("drop", 0)])
        self.desk.do(TELL_HUNG)
        self.at([HUNG, HUNG], [TELL_HUNG, ("drop", 0), TELL_HUNG])

    def test_lists_as_deeds_are_made_tuples_and_copied(self):
        deed = listed(TELL_HUNG)
        self.desk.do(deed)
        self.assertEqual(deed, listed(TELL_HUNG))
        deed[1][3].pop()
        deed.pop()
        self.at([WORE, HUNG], [TELL_HUNG])
        self.desk.do(["drop", 1])
        self.at([WORE], [TELL_HUNG, ("drop", 1)])

    def test_deeds_that_are_refused(self):
        self.desk.do(TELL_HUNG)
        for wrong in UNLIKE:
            self.same(self.refused(BadFact, self.desk.do, ("tell", wrong)).fact, wrong)
            self.same(self.refused(BadFact, self.desk.do, ["tell", listed(wrong)]).fact, wrong)
            self.at([WORE, HUNG], [TELL_HUNG])
        for index in (2, -1, -2, 40):
            self.same(self.refused(BadNumber, self.desk.do, ("drop", index)).number, index)
            self.at([WORE, HUNG], [TELL_HUNG])
        self.desk.undo()
        self.at([WORE])

    def test_undo(self):
        self.desk.do(TELL_HUNG)
        self.desk.do(("drop", 0))
        self.desk.do(TELL_CHOSE)
        self.assertIsNone(self.desk.undo())
        self.at([HUNG], [TELL_HUNG, ("drop", 0)])
        self.desk.undo()
        self.at([WORE, HUNG], [TELL_HUNG])
        self.desk.do(TELL_LATE)
        self.at([WORE, HUNG, LATE], [TELL_HUNG, TELL_LATE])
        self.desk.undo()
        self.desk.undo()
        self.at([WORE])

    def test_undo_of_a_drop_puts_the_fact_back_in_its_place(self):
        desk = Desk(Story(HOUSE, BOOK, [WORE, HUNG, CHOSE]))
        desk.do(("drop", 1))
        self.at([WORE, CHOSE], [("drop", 1)], desk)
        desk.undo()
        self.at([WORE, HUNG, CHOSE], (), desk)

    def test_nothing_to_undo(self):
        self.refused(NothingToUndo, self.desk.undo)
        self.at([WORE])
        self.desk.do(TELL_HUNG)
        self.desk.undo()
        self.refused(NothingToUndo, self.desk.undo)
        self.at([WORE])
        self.desk.do(TELL_CHOSE)
        self.at([WORE, CHOSE], [TELL_CHOSE])

    def test_two_desks_of_one_story(self):
        story = Story(HOUSE, BOOK, [WORE])
        one, two = Desk(story), Desk(story)
        one.do(TELL_HUNG)
        with Trial(one):
            two.do(TELL_CHOSE)
            two.undo()
            two.do(TELL_LATE)
        self.at([WORE, HUNG], [TELL_HUNG], one)
        self.at([WORE, LATE], [TELL_LATE], two)
        self.same(story.facts, (WORE,))

    def test_what_was_read_stays(self):
        story, deeds = self.desk.story, self.desk.deeds
        self.desk.do(TELL_HUNG)
        self.same((story.facts, deeds), ((WORE,), ()))


class Blocks(DeskCase):
    def setUp(self):
        super().setUp()
        self.desk.do(TELL_HUNG)
        self.blocks = (
            (lambda: Trial(self.desk), ()), (lambda: Attempt(self.desk), ()),
            (lambda: Supposing(self.desk, [CHOSE]), (CHOSE,)), (lambda: Supposing(self.desk, ()), ()),
        )

    def test_what_stands_behind_as_is_the_desk(self):
        for block, supposed in self.blocks:
            with block() as desk:
                self.assertIs(desk, self.desk)
                self.at((WORE, HUNG) + supposed, [TELL_HUNG])
            self.at([WORE, HUNG], [TELL_HUNG])

    def test_a_trial_without_an_error(self):
        with Trial(self.desk):
            self.desk.do(("drop", 0))
            self.desk.do(TELL_LATE)
            self.at([HUNG, LATE], [TELL_HUNG, ("drop", 0), TELL_LATE])
        self.at([WORE, HUNG], [TELL_HUNG])
        self.desk.undo()
        self.at([WORE])

    def test_a_trial_with_an_error(self):
        with self.assertRaises(Oops):
            with Trial(self.desk):
                self.desk.do(TELL_LATE)
                raise Oops()
        self.at([WORE, HUNG], [TELL_HUNG])
        self.desk.undo()
        self.at([WORE])

    def test_an_attempt_without_an_error(self):
        with Attempt(self.desk):
            self.desk.do(("drop", 0))
            self.desk.do(TELL_LATE)
        self.at([HUNG, LATE], [TELL_HUNG, ("drop", 0), TELL_LATE])
        self.desk.undo()
        self.desk.undo()
        self.at([WORE, HUNG], [TELL_HUNG])
        self.desk.undo()
        self.at([WORE])

    def test_an_attempt_with_an_error(self):
        with self.assertRaises(Oops):
            with Attempt(self.desk):
                self.desk.do(("drop", 0))
                self.desk.do(TELL_LATE)
                raise Oops()
        self.at([WORE, HUNG], [TELL_HUNG])
        self.desk.undo()
        self.at([WORE])

    def test_an_attempt_that_is_left_by_a_return_stands(self):
        def told():
            with Attempt(self.desk):
                self.desk.do(TELL_LATE)
                return len(self.desk)
        self.assertEqual(told(), 2)
        self.at([WORE, HUNG, LATE], [TELL_HUNG, TELL_LATE])

    def test_a_supposition_without_an_error(self):
        with Supposing(self.desk, [CHOSE, LATE]):
            self.at([WORE, HUNG, CHOSE, LATE], [TELL_HUNG])
            self.desk.do(("drop", 0))
            self.desk.do(TELL_HUNG)
            self.at([HUNG, CHOSE, LATE, HUNG], [TELL_HUNG, ("drop", 0), TELL_HUNG])
        self.at([WORE, HUNG], [TELL_HUNG])
        self.desk.undo()
        self.at([WORE])

    def test_a_supposition_with_an_error(self):
        with self.assertRaises(Oops):
            with Supposing(self.desk, [CHOSE]):
                self.desk.do(TELL_LATE)
                raise Oops()
        self.at([WORE, HUNG], [TELL_HUNG])
        self.desk.undo()
        self.at([WORE])

    def test_supposed_facts_that_are_dropped_in_the_block(self):
        with Supposing(self.desk, [CHOSE, LATE]):
            self.desk.do(("drop", 2))
            self.at([WORE, HUNG, LATE], [TELL_HUNG, ("drop", 2)])
            self.desk.undo()
            self.at([WORE, HUNG, CHOSE, LATE], [TELL_HUNG])
            self.desk.do(("drop", 3))
            self.desk.do(("drop", 2))
            self.desk.do(("drop", 1))
            self.at([WORE], [TELL_HUNG, ("drop", 3), ("drop", 2), ("drop", 1)])
        self.at([WORE, HUNG], [TELL_HUNG])

    def test_supposed_facts_are_no_deeds(self):
        with Supposing(self.desk, [CHOSE]):
            self.refused(NothingToUndo, self.desk.undo)
            self.at([WORE, HUNG, CHOSE], [TELL_HUNG])

    def test_a_supposition_of_what_is_no_fact(self):
        for wrong in UNLIKE:
            for facts in ([wrong, CHOSE, LATE], [CHOSE, wrong, STRANGE], [CHOSE, LATE, wrong]):
                with self.assertRaises(BadFact) as caught:
                    with Supposing(self.desk, listed(facts)):
                        self.fail("the block began")
                self.same(caught.exception.fact, wrong)
                self.at([WORE, HUNG], [TELL_HUNG])
        self.desk.undo()
        self.at([WORE])

    def test_a_refused_supposition_in_a_block(self):
        with Attempt(self.desk):
            self.desk.do(TELL_LATE)
            with self.assertRaises(BadFact):
                with Supposing(self.desk, [CHOSE, STRANGE]):
                    self.fail("the block began")
            self.at([WORE, HUNG, LATE], [TELL_HUNG, TELL_LATE])
            self.desk.undo()
            self.refused(NothingToUndo, self.desk.undo)

    def test_a_supposition_copies_its_facts(self):
        facts = [listed(HUNG), listed(CHOSE)]
        block = Supposing(self.desk, facts)
        facts[0][3].clear()
        facts.pop()
        with block:
            self.at([WORE, HUNG, HUNG, CHOSE], [TELL_HUNG])
        self.at([WORE, HUNG], [TELL_HUNG])

    def test_a_block_begins_at_with(self):
        blocks = (Trial(self.desk), Supposing(self.desk, [CHOSE]), Attempt(self.desk), Supposing(self.desk, [STRANGE]))
        self.desk.do(TELL_LATE)
        stands = ([WORE, HUNG, LATE], [TELL_HUNG, TELL_LATE])
        for block in blocks:
            self.at(*stands)
            with self.assertRaises((Oops, BadFact)):
                with block:
                    self.refused(NothingToUndo, self.desk.undo)
                    self.desk.do(TELL_CHOSE)
                    raise Oops()
        self.at(*stands)
        self.desk.undo()
        self.at([WORE, HUNG], [TELL_HUNG])

    def test_errors_leave_a_block_as_they_came(self):
        for block, _ in self.blocks:
            for error in (Oops("why"), Failed(), NothingToUndo(), KeyError(3)):
                with self.assertRaises(type(error)) as caught:
                    with block():
                        raise error
                self.assertIs(caught.exception, error)
                self.at([WORE, HUNG], [TELL_HUNG])
            with self.assertRaises(BadFact) as caught:
                with block():
                    self.desk.do(TELL_LATE)
                    self.desk.do(("tell", STRANGE))
            self.same(caught.exception.fact, STRANGE)
            self.at([WORE, HUNG], [TELL_HUNG])

    def test_an_error_that_is_caught_in_the_block_does_not_end_it(self):
        with Attempt(self.desk):
            self.desk.do(TELL_LATE)
            self.refused(BadNumber, self.desk.do, ("drop", 7))
            self.desk.do(TELL_CHOSE)
        self.at([WORE, HUNG, LATE, CHOSE], [TELL_HUNG, TELL_LATE, TELL_CHOSE])

    def test_undo_in_a_block(self):
        for block, supposed in self.blocks:
            with block():
                self.refused(NothingToUndo, self.desk.undo)
                self.at((WORE, HUNG) + supposed, [TELL_HUNG])
                self.desk.do(TELL_LATE)
                self.desk.do(("drop", 0))
                self.desk.undo()
                self.at((WORE, HUNG) + supposed + (LATE,), [TELL_HUNG, TELL_LATE])
                self.desk.undo()
                self.refused(NothingToUndo, self.desk.undo)
                self.at((WORE, HUNG) + supposed, [TELL_HUNG])
            self.at([WORE, HUNG], [TELL_HUNG])
        self.desk.undo()
        self.at([WORE])

    def test_undo_behind_a_block_that_ended_with_an_error(self):
        for block, _ in self.blocks:
            with self.assertRaises(Oops):
                with block():
                    raise Oops()
            self.desk.undo()
            self.at([WORE])
            self.desk.do(TELL_HUNG)


class BlocksInBlocks(DeskCase):
    def test_deeds_of_an_inner_attempt_are_deeds_of_the_outer_block(self):
        for outer in (Trial(self.desk), Attempt(self.desk), Supposing(self.desk, [])):
            with outer:
                self.desk.do(TELL_HUNG)
                with Attempt(self.desk):
                    self.refused(NothingToUndo, self.desk.undo)
                    self.desk.do(TELL_CHOSE)
                    self.desk.do(TELL_LATE)
                self.at([WORE, HUNG, CHOSE, LATE], [TELL_HUNG, TELL_CHOSE, TELL_LATE])
                for due in ([WORE, HUNG, CHOSE], [WORE, HUNG], [WORE]):
                    self.desk.undo()
                    self.same(self.desk.story.facts, tuple(due))
                self.refused(NothingToUndo, self.desk.undo)
            self.at([WORE])

    def test_an_attempt_in_a_trial_is_taken_back(self):
        with Trial(self.desk):
            with Attempt(self.desk):
                self.desk.do(TELL_HUNG)
            self.at([WORE, HUNG], [TELL_HUNG])
        self.at([WORE])
        self.refused(NothingToUndo, self.desk.undo)

    def test_an_attempt_in_a_failing_attempt_is_taken_back(self):
        with self.assertRaises(Oops):
            with Attempt(self.desk):
                with Attempt(self.desk):
                    self.desk.do(TELL_HUNG)
                raise Oops()
        self.at([WORE])

    def test_a_failing_attempt_in_an_attempt(self):
        with Attempt(self.desk):
            self.desk.do(TELL_HUNG)
            with self.assertRaises(Oops):
                with Attempt(self.desk):
                    self.desk.do(TELL_CHOSE)
                    raise Oops()
            self.at([WORE, HUNG], [TELL_HUNG])
            self.desk.do(TELL_LATE)
        self.at([WORE, HUNG, LATE], [TELL_HUNG, TELL_LATE])

    def test_a_trial_and_a_supposition_in_an_attempt(self):
        with Attempt(self.desk):
            self.desk.do(TELL_HUNG)
            with Trial(self.desk):
                self.desk.do(("drop", 0))
            with Supposing(self.desk, [CHOSE]):
                self.desk.do(("drop", 0))
                with Supposing(self.desk, [LATE]):
                    self.at([HUNG, CHOSE, LATE], [TELL_HUNG, ("drop", 0)])
                self.at([HUNG, CHOSE], [TELL_HUNG, ("drop", 0)])
            self.at([WORE, HUNG], [TELL_HUNG])
            self.desk.do(TELL_LATE)
            self.desk.undo()
            self.desk.undo()
            self.refused(NothingToUndo, self.desk.undo)
            self.desk.do(TELL_CHOSE)
        self.at([WORE, CHOSE], [TELL_CHOSE])

    def test_six_deep(self):
        desk, drop = self.desk, ("drop", 0)
        with Attempt(desk):
            desk.do(TELL_HUNG)
            with Trial(desk):
                desk.do(drop)
                with Supposing(desk, [CHOSE]):
                    desk.do(drop)
                    with Attempt(desk):
                        desk.do(TELL_LATE)
                        with Supposing(desk, [WORE]):
                            with self.assertRaises(Oops):
                                with Attempt(desk):
                                    self.refused(NothingToUndo, desk.undo)
                                    desk.do(TELL_LATE)
                                    self.at([CHOSE, LATE, WORE, LATE], [TELL_HUNG, drop, drop, TELL_LATE, TELL_LATE])
                                    raise Oops()
                            self.at([CHOSE, LATE, WORE], [TELL_HUNG, drop, drop, TELL_LATE])
                            self.refused(NothingToUndo, desk.undo)
                            desk.do(TELL_HUNG)
                        self.at([CHOSE, LATE], [TELL_HUNG, drop, drop, TELL_LATE])
                    desk.undo()
                    self.at([CHOSE], [TELL_HUNG, drop, drop])
                    desk.undo()
                    self.at([HUNG, CHOSE], [TELL_HUNG, drop])
                    self.refused(NothingToUndo, desk.undo)
                self.at([HUNG], [TELL_HUNG, drop])
            self.at([WORE, HUNG], [TELL_HUNG])
        self.at([WORE, HUNG], [TELL_HUNG])
        desk.undo()
        self.at([WORE])

    def test_an_error_through_six_blocks(self):
        desk = self.desk
        desk.do(TELL_HUNG)
        with self.assertRaises(Oops):
            with Attempt(desk), Trial(desk), Supposing(desk, [CHOSE]):
                with Attempt(desk), Supposing(desk, []), Attempt(desk):
                    desk.do(TELL_LATE)
                    self.at([WORE, HUNG, CHOSE, LATE], [TELL_HUNG, TELL_LATE])
                    raise Oops()
        self.at([WORE, HUNG], [TELL_HUNG])
        desk.undo()
        self.at([WORE])

    def test_six_attempts_deep(self):
        def within_block(depth):
            with Attempt(self.desk):
                self.desk.do(TELL_LATE)
                if depth < 6:
                    within_block(depth + 1)
                self.assertEqual(len(self.desk), 6)
        within_block(1)
        self.at([WORE] + [LATE] * 6, [TELL_LATE] * 6)
        for _ in range(6):
            self.desk.undo()
        self.at([WORE])


class Performing(DeskCase):
    def perform(self, *actions):
        """What is seen; the same with lists instead of tuples, at another desk that ends up alike."""
        other = Desk(self.desk.story)
        seen = perform(self.desk, actions)
        if not self.desk.deeds:
            self.same(perform(other, listed(actions)), seen)
            self.same((other.story.facts, other.deeds), (self.desk.story.facts, self.desk.deeds))
        return seen

    def test_no_actions(self):
        self.same(self.perform(), ())
        self.at([WORE])

    def test_deeds_undo_and_look(self):
        actions = [("look",), TELL_HUNG, ("look",), ("drop", 0), ("look",), ("undo",), ("look",)]
        passed = listed(actions)
        self.same(perform(self.desk, passed), ((0, (WORE,)), (1, (WORE, HUNG)), (2, (HUNG,)), (1, (WORE, HUNG))))
        self.assertEqual(passed, listed(actions))
        self.at([WORE, HUNG], [TELL_HUNG])
        # It is no block: what was done ahead of it may be undone.
        self.same(perform(self.desk, (("undo",), ("look",))), ((0, (WORE,)),))
        self.at([WORE])

    def test_what_was_seen_in_blocks_stays_seen(self):
        look = ("look",)
        seen = self.perform(
            ("trial", (TELL_HUNG, look, ("trial", (TELL_CHOSE, look)), look)),
            look,
            ("suppose", (CHOSE, LATE), (look, ("drop", 0), look, ("undo",), look)),
            ("attempt", (("suppose", (), (look,)), TELL_LATE, look)),
            look,
        )
        self.same(seen, (
            (1, (WORE, HUNG)), (2, (WORE, HUNG, CHOSE)), (1, (WORE, HUNG)),
            (0, (WORE,)),
            (0, (WORE, CHOSE, LATE)), (1, (CHOSE, LATE)), (0, (WORE, CHOSE, LATE)),
            (0, (WORE,)), (1, (WORE, LATE)),
            (1, (WORE, LATE)),
        ))
        self.at([WORE, LATE], [TELL_LATE])

    def test_empty_blocks(self):
        self.same(self.perform(("trial", ()), ("attempt", ()), ("suppose", (), ())), ())
        self.at([WORE])

    def test_fail(self):
        self.refused(Failed, perform, self.desk, [("fail",)])
        self.at([WORE])
        self.refused(Failed, perform, self.desk, [TELL_HUNG, ("fail",), TELL_LATE])
        self.at([WORE, HUNG], [TELL_HUNG])

    def test_errors_leave_all_blocks(self):
        wrong = (
            (("fail",), Failed), (("undo",), NothingToUndo), (("tell", STRANGE), BadFact), (("drop", 9), BadNumber),
            (("suppose", (CHOSE, STRANGE), (("fail",),)), BadFact), (("suppose", (), (("drop", -1),)), BadNumber),
        )
        for action, error in wrong:
            for block in ("trial", "attempt"):
                self.refused(error, perform, self.desk, [(block, [action])])
                self.at([WORE])
                self.refused(error, perform, self.desk, [("attempt", [(block, [action]), TELL_LATE]), TELL_LATE])
                self.at([WORE])
                self.refused(error, perform, self.desk, [("suppose", [CHOSE], [(block, [action]), TELL_LATE])])
                self.at([WORE])

    def test_what_was_done_ahead_stands_as_far_as_the_blocks_let_it(self):
        actions = [TELL_HUNG, ("attempt", [TELL_CHOSE]), ("trial", [TELL_LATE]), ("attempt", [TELL_LATE, ("fail",)])]
        self.refused(Failed, perform, self.desk, actions)
        self.at([WORE, HUNG, CHOSE], [TELL_HUNG, TELL_CHOSE])
        actions = [("drop", 0), ("suppose", [LATE], [("drop", 0), ("undo",), ("undo",)]), TELL_LATE]
        self.refused(NothingToUndo, perform, self.desk, actions)
        self.at([HUNG, CHOSE], [TELL_HUNG, TELL_CHOSE, ("drop", 0)])
        error = self.refused(BadFact, perform, self.desk, [("undo",), ("undo",), ("tell", listed(STRANGE)), ("undo",)])
        self.same(error.fact, STRANGE)
        self.at([WORE, HUNG], [TELL_HUNG])

    def test_undo_in_a_block_keeps_to_the_block(self):
        for block in ("trial", "attempt"):
            desk = Desk(Story(HOUSE, BOOK))
            self.refused(NothingToUndo, perform, desk, [TELL_HUNG, (block, [("undo",)])])
            self.at([HUNG], [TELL_HUNG], desk)
        desk = Desk(Story(HOUSE, BOOK))
        self.refused(NothingToUndo, perform, desk, [TELL_HUNG, ("suppose", [CHOSE], [("undo",)])])
        self.at([HUNG], [TELL_HUNG], desk)
        seen = perform(desk, [("trial", [("attempt", [TELL_LATE]), ("undo",), ("look",)])])
        self.same(seen, ((1, (HUNG,)),))

    def test_perform_in_a_block(self):
        self.desk.do(TELL_HUNG)
        with Attempt(self.desk):
            self.refused(NothingToUndo, perform, self.desk, [TELL_LATE, ("undo",), ("undo",)])
            perform(self.desk, [TELL_LATE])
            self.desk.undo()
            perform(self.desk, [TELL_CHOSE])
        self.at([WORE, HUNG, CHOSE], [TELL_HUNG, TELL_CHOSE])

    def test_six_deep(self):
        actions = [("look",)]
        for block in (("trial",), ("suppose", [CHOSE]), ("attempt",)) * 2:
            actions = [TELL_LATE, block + (actions,), ("look",)]
        # From the outside: an attempt, a supposition, a trial, and the same in these.
        self.same(perform(self.desk, actions), (
            (6, (WORE, LATE, LATE, CHOSE, LATE, LATE, LATE, CHOSE, LATE)),
            (6, (WORE, LATE, LATE, CHOSE, LATE, LATE, LATE, CHOSE, LATE)),
            (5, (WORE, LATE, LATE, CHOSE, LATE, LATE, LATE)),
            (5, (WORE, LATE, LATE, CHOSE, LATE, LATE, LATE)),
            (3, (WORE, LATE, LATE, CHOSE, LATE)),
            (2, (WORE, LATE, LATE)),
            (2, (WORE, LATE, LATE)),
        ))
        self.at([WORE, LATE, LATE], [TELL_LATE, TELL_LATE])
