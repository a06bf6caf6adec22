"""Notes of stories (point 104)."""

from leavetaking.books import is_book
from leavetaking.errors import BadNotation
from leavetaking.factnotes import fact_in, fact_line
from leavetaking.housenotes import house_lines, read_house
from leavetaking.notelines import line_of, lines_of, note_of, words_at
from leavetaking.stories import Story


def format_story(story):
    """The note of the story."""
    facts = [fact_line(fact) for fact in story.facts]
    return note_of(house_lines(story.house) + [line_of(("book",) + story.book)] + facts)


def parse_story(text):
    """The story of which the text is the note."""
    lines = lines_of(text)
    house, used = read_house(lines)
    words = words_at(lines, used)
    if words[:1] != ("book",) or not is_book(house, words[1:]):
        raise BadNotation(used)
    facts = []
    for index in range(used + 1, len(lines)):
        fact = fact_in(house, words_at(lines, index))
        if fact is None:
            raise BadNotation(index)
        facts.append(fact)
    return Story(house, words[1:], facts)
