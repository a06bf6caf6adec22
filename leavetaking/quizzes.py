"""What is learned of a claim by asking whether other claims are kept (points 85 to 87)."""

from leavetaking.casework import first_evening
from leavetaking.claims import Claim, check_claim
from leavetaking.common import frozen


class Quiz:
    """How many questions are enough and in which tree, or two evenings that show that none are."""

    def __init__(self, count, tree, one, two):
        self.count = count
        self.tree = tree
        self.one = one
        self.two = two


def answer_rows(story, claim, questions):
    """All pairs of the answers to the questions and the truth of the claim that come about, in order."""
    _check_claims(story.house, claim, questions)
    claims = list(questions) + [claim]
    rows = [()] if first_evening(story) is not None else []
    for count in range(len(claims)):
        longer = [row + (answer,) for row in rows for answer in (False, True)]
        rows = [row for row in longer if first_evening(story, _told(claims[:count + 1], row)) is not None]
    return tuple([(row[:-1], row[-1]) for row in rows])


def quiz(story, claim, questions):
    """The quiz on the claim with these questions."""
    rows = answer_rows(story, claim, questions)
    count = _least_count(rows, len(questions))
    if count is not None:
        return Quiz(count, _best_tree(rows, len(questions)), None, None)
    truths = {}
    for answers, truth in rows:
        truths.setdefault(answers, []).append(truth)
    unsettled = [answers for answers, found in truths.items() if len(found) == 2]
    claims = list(questions) + [claim]
    one, two = [first_evening(story, _told(claims, unsettled[0] + (truth,))) for truth in (False, True)]
    return Quiz(None, None, one, two)


def is_quiz_tree(story, claim, questions, tree, count):
    """Whether each evening that fits comes to the truth of the claim in the tree, after at most so many questions."""
    tree = frozen(tree)
    return all([_is_told_by(tree, answers, truth, count) for answers, truth in answer_rows(story, claim, questions)])


def _check_claims(house, claim, questions):
    check_claim(house, claim)
    for question in questions:
        check_claim(house, question)


def _told(claims, answers):
    """The claim that each of the claims is kept or broken, as the answers tell."""
    return Claim.every([claim if answer else ~claim for claim, answer in zip(claims, answers)])


def _least_count(rows, many):
    """The least number of questions, of so many, that is enough for the answer rows, or None."""
    if _is_settled(rows):
        return 0
    counts = [_count_with(rows, many, index) for index in range(many)]
    return min([count for count in counts if count is not None], default=None)


def _count_with(rows, many, index):
    """The least number of questions that is enough for the answer rows if this one is asked first, or None."""
    lots = [_answered(rows, index, answer) for answer in (False, True)]
    if not all(lots):
        # Nothing is learned by this question.
        return None
    counts = [_least_count(lot, many) for lot in lots]
    return None if None in counts else 1 + max(counts)


def _best_tree(rows, many):
    """The tree with the least number of questions for answer rows for which some number is enough."""
    if not rows:
        return None
    if _is_settled(rows):
        return rows[0][1]
    counts = [_count_with(rows, many, index) for index in range(many)]
    index = counts.index(_least_count(rows, many))
    no, yes = [_best_tree(_answered(rows, index, answer), many) for answer in (False, True)]
    return (index, no, yes)


def _is_settled(rows):
    """Whether not both truths stand in the answer rows."""
    return len({truth for _, truth in rows}) < 2


def _answered(rows, index, answer):
    """The answer rows with this answer to the question."""
    return [row for row in rows if row[0][index] == answer]


def _is_told_by(tree, answers, truth, count):
    """Whether the tree leads by the answers to the truth, after at most so many questions."""
    asked = 0
    while isinstance(tree, tuple):
        index, no, yes = tree
        tree = yes if answers[index] else no
        asked += 1
    return tree == truth and asked <= count
