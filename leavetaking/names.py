"""Names of guests (point 5)."""

from leavetaking.common import frozen
from leavetaking.errors import BadName, TakenName


def is_name(value):
    """Whether the string is a name."""
    if not 1 <= len(value) <= 8 or not _is_letter(value[0]):
        return False
    return all([_is_letter(sign) or "0" <= sign <= "9" for sign in value])


def own_names(names):
    """The names as a tuple; BadName for the first string that is none, or TakenName for the first that stands twice."""
    names = frozen(names)
    for name in names:
        if not is_name(name):
            raise BadName(name)
    for place, name in enumerate(names):
        if name in names[:place]:
            raise TakenName(name)
    return names


def _is_letter(sign):
    # Compared, not asked by isalpha and the like: those take letters of all scripts.
    return "a" <= sign <= "z"
