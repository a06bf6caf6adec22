"""Whether evenings fit a story (point 21)."""

from leavetaking.errors import OtherBook
from leavetaking.evenings import book_of, is_evening
from leavetaking.meanings import holds


def misfit(story, evening):
    """The index of the first fact that does not hold in the evening, or None."""
    if book_of(evening) != story.book:
        raise OtherBook()
    for index, fact in enumerate(story.facts):
        if not holds(story.house, evening, fact):
            return index
    return None


def fits(story, steps):
    """Whether the steps are an evening that fits the story."""
    return is_evening(story.house, story.book, steps) and misfit(story, steps) is None
