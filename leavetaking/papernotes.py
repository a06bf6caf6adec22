"""Notes of papers (point 107)."""

from leavetaking.choices import PLAIN
from leavetaking.common import frozen
from leavetaking.errors import BadNotation
from leavetaking.factnotes import bracketed, bracketed_at
from leavetaking.notelines import line_of, lines_of, note_of, number_of, words_at
from leavetaking.worncases import is_wearing


def format_paper(paper):
    """The note of the paper."""
    lines = []
    for wearing, facts, levels, come in frozen(paper):
        lines.append(line_of(("wearing",) + wearing))
        lines.append(line_of(["facts"] + [bracketed(fact) for fact in facts]))
        lines.append(_levels_line(levels, come))
    return note_of(lines)


def parse_paper(house, text):
    """The paper of which the text is the note."""
    lines = lines_of(text)
    paper = []
    for index in range(0, len(lines), 3):
        wearing = _wearing_in(house, words_at(lines, index))
        if wearing is None:
            raise BadNotation(index)
        facts = _facts_in(house, line_of(words_at(lines, index + 1)))
        if facts is None:
            raise BadNotation(index + 1)
        last = _levels_in(house, words_at(lines, index + 2))
        if last is None:
            raise BadNotation(index + 2)
        paper.append((wearing, facts, last[:-1], last[-1]))
    return tuple(paper)


def _levels_line(levels, come):
    """The last line of an item."""
    words = ["-" if level is None else str(level) for level in levels]
    return line_of(["levels"] + words + ["come", str(come)])


# Each of the following gives what a line says, or None if it is no such line.


def _wearing_in(house, words):
    return words[1:] if words[:1] == ("wearing",) and is_wearing(house, words[1:]) else None


def _facts_in(house, line):
    if not line.startswith("facts"):
        return None
    facts = []
    at = len("facts")
    while at < len(line):
        fact = bracketed_at(house, line, at + 1)
        if line[at] != " " or fact is None or fact[0] not in PLAIN:
            return None
        facts.append(fact)
        at = line.find("]", at) + 1
    return tuple(facts)


def _levels_in(house, words):
    """The levels, and `come` behind them."""
    levels = tuple([number_of(word) for word in words[1:-2]])
    come = number_of(words[-1]) if words else None
    # What is no number must be the sign for None: then the line is the one that is written for these levels.
    if come is None or len(levels) != len(house) or line_of(words) != _levels_line(levels, come):
        return None
    told = [number for number in levels + (come,) if number is not None]
    return levels + (come,) if all([0 <= number <= len(house) for number in told]) else None
