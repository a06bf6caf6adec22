"""Facts as they are written in notes (points 102, 104 and 106)."""

from leavetaking.facts import is_fact
from leavetaking.notelines import line_of, number_of, words_of


def fact_line(fact):
    """The line of the fact."""
    kind = fact[0]
    if kind in ("wore", "spared", "chose", "settled"):
        _, guest, told = fact
        return line_of([kind, guest, str(told)])
    if kind == "before":
        _, event, other = fact
        return line_of([kind, _event_word(event), _event_word(other)])
    _, event, count, row = fact
    # By its kind, because guests may be called `in` and `out`: a pair of cloaks can look like an event.
    words = [_event_word(item) for item in row] if kind in ("after", "ahead") else list(row)
    return line_of([kind, _event_word(event), str(count)] + words)


def bracketed(fact):
    """The line of the fact in brackets."""
    return f"[{fact_line(fact)}]"


def fact_in(house, words):
    """The fact for the house whose line has these words, or None."""
    if len(words) < 3:
        return None
    value = _told_by(words)
    return value if is_fact(house, value) else None


def bracketed_at(house, text, at):
    """The fact for the house whose line stands in brackets from this place of the text on, or None."""
    end = text.find("]", at)
    if text[at:at + 1] != "[" or end < 0:
        return None
    return fact_in(house, words_of(text[at + 1:end]))


def _told_by(words):
    """The tuple that is a fact if the words are those of the line of a fact."""
    kind = words[0]
    if kind == "before":
        return (kind,) + tuple([_event_in(word) for word in words[1:]])
    if kind in ("chose", "settled"):
        return words[:2] + tuple([number_of(word) for word in words[2:]])
    if kind in ("wore", "spared"):
        return words
    row = words[3:]
    if kind in ("after", "ahead"):
        row = tuple([_event_in(word) for word in row])
    return (kind, _event_in(words[1]), number_of(words[2]), row)


def _event_word(event):
    word, guest = event
    return f"{word}:{guest}"


def _event_in(word):
    """The event that is written as this word; no event if none is."""
    return tuple(word.split(":"))
