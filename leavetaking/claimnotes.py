"""Notes of claims (point 106)."""

from leavetaking.claims import Claim
from leavetaking.errors import BadNotation
from leavetaking.factnotes import bracketed, bracketed_at
from leavetaking.notelines import lines_of, note_of

WORDS = {" & ": "and", " | ": "or"}
SIGNS = {"and": "&", "or": "|"}


def format_claim(claim):
    """The note of the claim."""
    return note_of([_form_text(claim.form)])


def parse_claim(house, text):
    """The claim of which the text is the note."""
    lines = lines_of(text)
    form = _form_in(house, lines[0]) if lines and lines[0] is not None else None
    if form is None:
        raise BadNotation(0)
    if len(lines) > 1:
        raise BadNotation(1)
    return Claim(form)


def _form_text(form):
    """The form as it is written."""
    if form[0] == "fact":
        return bracketed(form[1])
    word, one, two = form
    return f"({_form_text(one)} {SIGNS[word]} {_form_text(two)})"


def _form_in(house, text):
    """The form that is written as this text, or None."""
    # For each bracket that is open None, or the word and the first part if they have been read.
    begun = []
    at = 0
    while at < len(text):
        while text[at:at + 1] == "(":
            begun.append(None)
            at += 1
        fact = bracketed_at(house, text, at)
        if fact is None:
            return None
        form = ("fact", fact)
        at = text.find("]", at) + 1
        while begun and begun[-1] is not None and text[at:at + 1] == ")":
            word, one = begun.pop()
            form = (word, one, form)
            at += 1
        if not begun:
            return form if at == len(text) else None
        word = WORDS.get(text[at:at + 3])
        if word is None or begun[-1] is not None:
            return None
        begun[-1] = (word, form)
        at += 3
    return None
