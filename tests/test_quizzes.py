"""Points 85 to 87: what is learned of a claim by asking whether other claims are kept."""

from random import Random

from leavetaking.casework import first_evening
from leavetaking.claims import Claim
from leavetaking.errors import BadFact
from leavetaking.evenings import evenings
from leavetaking.fitting import fits
from leavetaking.houses import House
from leavetaking.keeping import keeps
from leavetaking.quizzes import answer_rows, is_quiz_tree, quiz
from leavetaking.stories import Story

from tests.helpers import (
    ADA, BOB, CLEO, GUESTS, PromiseCase, all_facts, fitting, listed, sample_houses, says_form, some_claim,
)

HOUSE = House(GUESTS)
BOOK = (ADA, BOB, CLEO)
STORY = Story(HOUSE, BOOK)
NEVER = STORY.told(("wore", ADA, ADA)).told(("wore", BOB, ADA))
OWN = {guest: Claim.of(("wore", guest, guest)) for guest in GUESTS}
EARLY = Claim.of(("before", ("out", ADA), ("in", BOB)))
STRANGE = Claim.of(("wore", "zoe", ADA))


def plain_rows_of(story, claim, questions):
    """All answer rows, told by all evenings that fit."""
    found = {(tuple([says_form(story.house, evening, question.form) for question in questions]),
              says_form(story.house, evening, claim.form)) for evening in fitting(story)}
    return tuple(sorted(found))


def depth_of(tree):
    """The greatest number of questions of the tree."""
    return 1 + max(depth_of(tree[1]), depth_of(tree[2])) if isinstance(tree, tuple) else 0


def all_trees(rows, many, depth):
    """Whether some tree of at most this depth tells the truth of all these rows: all questions are tried."""
    if len({truth for _, truth in rows}) < 2:
        return True
    return depth > 0 and any(all(all_trees([row for row in rows if row[0][index] == answer], many, depth - 1)
                                 for answer in (False, True)) for index in range(many))


def told_by(tree, row, count):
    """Whether the tree leads the row to its truth after at most so many questions."""
    asked = 0
    while isinstance(tree, (tuple, list)):
        tree = tree[1 + row[0][tree[0]]]
        asked += 1
    return tree is row[1] and asked <= count


def some_quizzes(count):
    """Stories, claims and up to four questions, in a fixed disorder."""
    draw = Random(86)
    for house, book in sample_houses():
        facts = [fact for fact in all_facts(house) if len(fact) == 3 or len(fact[3]) <= 2]
        shorts = [fact for fact in facts if fact[0] in ("wore", "before", "chose")]
        for _ in range(count):
            story = Story(house, book, [draw.choice(shorts)] if draw.random() < 0.4 else [])
            questions = [Claim.of(draw.choice(shorts)) for _ in range(draw.randint(0, 4))]
            claim = draw.choice(questions + [Claim.of(draw.choice(facts))])
            if len(questions) > 1 and draw.random() < 0.6:
                one, two = draw.sample(questions, 2)
                claim = draw.choice((one & two, one | ~two, (one & two) | (~one & ~two)))
            yield story, claim, questions


class AnswerRows(PromiseCase):
    def test_rows(self):
        self.same(answer_rows(STORY, OWN[ADA], []), (((), False), ((), True)))
        self.same(answer_rows(STORY.told(("wore", ADA, ADA)), OWN[ADA], ()), (((), True),))
        self.same(answer_rows(STORY, OWN[ADA], [EARLY]), (((False,), False), ((False,), True), ((True,), True)))
        # The same question twice, and the claim among the questions.
        self.same(answer_rows(STORY, OWN[ADA], [EARLY, EARLY]),
                  (((False, False), False), ((False, False), True), ((True, True), True)))
        self.same(answer_rows(STORY, OWN[ADA], [OWN[ADA]]), (((False,), False), ((True,), True)))
        self.same(answer_rows(NEVER, OWN[ADA], [EARLY]), ())
        self.same(answer_rows(NEVER, OWN[ADA], []), ())

    def test_all_small_houses(self):
        sizes = set()
        for story, claim, questions in some_quizzes(5):
            due = plain_rows_of(story, claim, questions)
            self.same(answer_rows(story, claim, questions), due)
            sizes.add(len(due))
        self.assertGreater(len(sizes), 5)

    def test_four_questions(self):
        questions = [OWN[ADA], OWN[BOB], OWN[CLEO], EARLY]
        rows = answer_rows(STORY, OWN[ADA] & ~EARLY, questions)
        self.same(rows, plain_rows_of(STORY, OWN[ADA] & ~EARLY, questions))
        self.same(rows, tuple(sorted(rows)))

    def test_the_claim_is_looked_at_ahead_of_the_questions(self):
        two = Claim.of(("chose", ADA, -1))
        for story in (STORY, NEVER):
            for call in (answer_rows, quiz, lambda *passed: is_quiz_tree(*passed, None, 0)):
                self.same(self.refused(BadFact, call, story, two, [STRANGE]).fact, ("chose", ADA, -1))
                self.same(self.refused(BadFact, call, story, EARLY, [EARLY, STRANGE, two]).fact, ("wore", "zoe", ADA))


class Quizzes(PromiseCase):
    def test_trees(self):
        found = quiz(STORY, OWN[ADA], [EARLY, OWN[ADA]])
        self.same((found.count, found.tree, found.one, found.two), (1, (1, False, True), None, None))
        # Of two questions that do as well the one with the least index.
        self.same(quiz(STORY, OWN[ADA], [OWN[ADA], OWN[ADA]]).tree, (0, False, True))
        both = quiz(STORY, OWN[ADA] & OWN[BOB], [EARLY, OWN[BOB], OWN[ADA]])
        self.same((both.count, both.tree), (2, (1, False, (2, False, True))))
        sure = quiz(STORY.told(("wore", ADA, ADA)), OWN[ADA], [EARLY])
        self.same((sure.count, sure.tree), (0, True))
        sure = quiz(STORY.told(("spared", ADA, ADA)), OWN[ADA], [])
        self.same((sure.count, sure.tree), (0, False))

    def test_no_evening_fits(self):
        for questions in ([], [EARLY, OWN[ADA]]):
            found = quiz(NEVER, OWN[ADA], questions)
            self.same((found.count, found.tree, found.one, found.two), (0, None, None, None))

    def test_claims_that_no_questions_settle(self):
        found = quiz(STORY, OWN[CLEO], [])
        self.same((found.count, found.tree), (None, None))
        self.same((found.one, found.two), (first_evening(STORY, ~OWN[CLEO]), first_evening(STORY, OWN[CLEO])))
        found = quiz(STORY, OWN[CLEO], [EARLY, OWN[BOB]])
        self.same((found.count, found.tree), (None, None))
        # bob's cloak is the one that cleo takes if ada left in bob's: the first answers are twice False.
        told = [~EARLY, ~OWN[BOB]]
        self.same(found.one, first_evening(STORY, Claim.every(told + [~OWN[CLEO]])))
        self.same(found.two, first_evening(STORY, Claim.every(told + [OWN[CLEO]])))
        self.assertTrue(fits(STORY, found.one) and fits(STORY, found.two))

    def test_all_small_houses(self):
        kinds = set()
        for story, claim, questions in some_quizzes(8):
            rows = plain_rows_of(story, claim, questions)
            found = quiz(story, claim, questions)
            counts = [count for count in range(5) if all_trees(rows, len(questions), count)]
            self.same(found.count, counts[0] if counts else None)
            kinds.add(found.count)
            if counts:
                self.assertEqual((found.one, found.two), (None, None))
                self.check_tree(found.tree, rows, len(questions), found.count)
                self.assertIs(is_quiz_tree(story, claim, questions, found.tree, found.count), True)
                self.assertIs(is_quiz_tree(story, claim, questions, found.tree, found.count - 1), not rows)
            else:
                self.assertIsNone(found.tree)
                answers = [answers for answers, truth in rows if truth is False and (answers, True) in rows][0]
                told = [question if answer else ~question for question, answer in zip(questions, answers)]
                self.same(found.one, first_evening(story, Claim.every(told + [~claim])))
                self.same(found.two, first_evening(story, Claim.every(told + [claim])))
                self.assertIs(keeps(story.house, found.two, claim), True)
                self.assertIs(keeps(story.house, found.one, claim), False)
        self.assertLessEqual({None, 0, 1, 2}, kinds)

    def test_three_questions_are_due(self):
        house = HOUSE.choosing(ADA, 3).choosing(BOB, 3).choosing(CLEO, 3)
        asked = [Claim.of(("before", ("out", BOB), ("in", CLEO))), OWN[ADA], Claim.of(("before", ("out", ADA), ("in", CLEO))),
                 Claim.of(("before", ("out", ADA), ("out", CLEO)))]
        claim = asked[0]
        for question in (asked[2], asked[3]):
            claim = (claim & ~question) | (~claim & question)
        story = Story(house, BOOK)
        rows = plain_rows_of(story, claim, asked)
        found = quiz(story, claim, asked)
        self.same(found.count, 3)
        self.check_tree(found.tree, rows, 4, 3)
        every = Claim.every(asked)
        self.same(quiz(story, every, asked).tree, (0, False, (1, False, (2, False, True))))
        self.check_tree(quiz(story, every, asked).tree, plain_rows_of(story, every, asked), 4, 3)

    def check_tree(self, tree, rows, many, count):
        """The tree is the one of point 86 for these rows, for which this number of questions is the least one."""
        if not rows:
            self.assertIsNone(tree)
        elif count == 0:
            self.assertIs(tree, rows[0][1])
        else:
            index, no, yes = tree
            for other in range(index + 1):
                parts = [[row for row in rows if row[0][other] == answer] for answer in (False, True)]
                enough = all(all_trees(part, many, count - 1) for part in parts)
                self.assertIs(enough, other == index)
            for part, below in zip(parts, (no, yes)):
                least = [number for number in range(5) if all_trees(part, many, number)][0]
                self.check_tree(below, part, many, least)


class Judging(PromiseCase):
    QUESTIONS = [EARLY, OWN[BOB], OWN[ADA]]
    CLAIM = OWN[ADA] & OWN[BOB]

    def judged(self, tree, count, story=STORY, claim=CLAIM):
        return is_quiz_tree(story, claim, self.QUESTIONS, tree, count)

    def test_leaves_and_counts(self):
        tree = (1, False, (2, False, True))
        self.same([self.judged(tree, count) for count in (-1, 0, 1, 2, 3, 10 ** 20)], [False] * 3 + [True] * 3)
        self.same(self.judged(listed(tree), 2), True)
        self.same(self.judged([1, False, (2, False, True)], 2), True)
        for wrong in ((1, False, (2, True, True)), (1, True, (2, False, True)), (2, False, True), True, False, None,
                      (1, None, (2, False, True)), (1, False, (2, None, True)), (1, (2, False, None), (2, False, True))):
            self.same(self.judged(wrong, 5), wrong == (1, (2, False, None), (2, False, True)) and self.nobody())

    def nobody(self):
        """Whether no evening has ada in its own cloak and bob in another one than its own."""
        return not [one for one in evenings(HOUSE, BOOK) if ("out", ADA, ADA) in one and ("out", BOB, BOB) not in one]

    def test_leaves_to_which_no_evening_comes(self):
        # If ada leaves before bob comes, ada leaves in its own cloak.
        for leaf in (None, True, False):
            self.same(is_quiz_tree(STORY, OWN[ADA], [EARLY, OWN[ADA]], (0, (1, False, True), (1, leaf, True)), 2), True)
            self.same(is_quiz_tree(STORY, OWN[ADA], [EARLY, OWN[ADA]], (0, (1, leaf, True), True), 2), leaf is False)
            # The same question asked again.
            self.same(is_quiz_tree(STORY, OWN[ADA], [OWN[ADA]], (0, (0, False, leaf), (0, leaf, True)), 2), True)

    def test_trees_that_are_too_deep(self):
        deep = (0, (0, (0, (0, (0, (0, False, None), None), None), None), None), True)
        self.same([is_quiz_tree(STORY, OWN[ADA], [OWN[ADA]], deep, count) for count in (1, 5, 6)], [False, False, True])
        # Only the evenings that come about are counted.
        own = STORY.told(("wore", ADA, ADA))
        self.same([is_quiz_tree(own, OWN[ADA], [OWN[ADA]], deep, count) for count in (0, 1)], [False, True])

    def test_no_evening_fits(self):
        for tree in (None, True, (1, None, False)):
            for count in (-1, 0, 4):
                self.same(self.judged(tree, count, NEVER), True)

    def test_all_small_houses(self):
        draw = Random(87)
        verdicts = []
        for story, claim, questions in some_quizzes(8):
            rows = plain_rows_of(story, claim, questions)
            found = quiz(story, claim, questions)
            trees = [found.tree, self.changed(draw, found.tree), self.changed(draw, found.tree)]
            for tree in trees + ([(0, found.tree, found.tree)] if questions else []):
                for count in (depth_of(tree), depth_of(tree) - 1):
                    due = all([told_by(tree, row, count) for row in rows])
                    self.assertIs(is_quiz_tree(story, claim, questions, tree, count), due)
                    verdicts.append(due)
        self.assertGreater(min(verdicts.count(True), verdicts.count(False)), 60)

    def changed(self, draw, tree):
        """The tree with some leaf changed."""
        if not isinstance(tree, tuple):
            return draw.choice((True, False, None))
        index, no, yes = tree
        return (index, self.changed(draw, no), yes) if draw.random() < 0.5 else (index, no, self.changed(draw, yes))
