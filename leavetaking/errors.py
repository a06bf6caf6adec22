"""The errors of all parts of the program."""

from leavetaking.common import frozen


class LeaveError(ValueError):
    """The base class of all errors that the program raises."""


class BadName(LeaveError):
    """A guest is to have a string as its name that is no name."""

    def __init__(self, name):
        self.name = name


class TakenName(LeaveError):
    """A guest is to have the name of a guest ahead of it."""

    def __init__(self, name):
        self.name = name


class BadTaste(LeaveError):
    """A taste has not exactly one number for each guest."""


class BadBrings(LeaveError):
    """The cloaks that are brought are not those of all guests, each once."""


class BadPegs(LeaveError):
    """A number of pegs cannot be had."""

    def __init__(self, pegs):
        self.pegs = pegs


class UnknownGuest(LeaveError):
    """A name is not that of a guest."""

    def __init__(self, name):
        self.name = name


class BadDepth(LeaveError):
    """A depth is less than 1."""

    def __init__(self, depth):
        self.depth = depth


class BadBook(LeaveError):
    """The book is not a book of the house."""


class NotLet(LeaveError):
    """A step is not let where it is to be made."""

    def __init__(self, step):
        self.step = frozen(step)


class BadStep(LeaveError):
    """Of several steps, the one at the index is not let."""

    def __init__(self, index):
        self.index = index


class BadFact(LeaveError):
    """What is passed as a fact is not one for the house."""

    def __init__(self, fact):
        self.fact = frozen(fact)


class BadNumber(LeaveError):
    """There is nothing with this number."""

    def __init__(self, number):
        self.number = number


class StoriesDiffer(LeaveError):
    """Two stories have different houses or books."""


class OtherBook(LeaveError):
    """An evening has another book than the story."""


class NothingToUndo(LeaveError):
    """No deed stands that may be undone."""


class Failed(LeaveError):
    """An action was to fail."""


class BadWearing(LeaveError):
    """A wearing does not consist of all cloaks, each once."""


class NoEvening(LeaveError):
    """There is no evening to tell something of."""


class BadRow(LeaveError):
    """The row is not a row of the house."""


class BadTaking(LeaveError):
    """Of several takings, the one at the index is none of the guests."""

    def __init__(self, index):
        self.index = index


class BadTie(LeaveError):
    """Of several ties, the one at the index is none of the guests."""

    def __init__(self, index):
        self.index = index


class NoOrder(LeaveError):
    """No order of worth fits what was seen."""


class BadRule(LeaveError):
    """Of several rules, the one at the index contradicts or repeats one ahead of it."""

    def __init__(self, index):
        self.index = index


class HousesDiffer(LeaveError):
    """Two houses have not the same guests in the same order."""


class BadNotation(LeaveError):
    """The line of a note is not right, or is missing."""

    def __init__(self, line):
        self.line = line
