"""The errors of all parts, as the interface lists them."""

from leavetaking import errors
from leavetaking.errors import LeaveError

from tests.helpers import PromiseCase

WITHOUT_FIELDS = (
    "BadTaste", "BadBrings", "BadBook", "StoriesDiffer", "OtherBook", "NothingToUndo", "Failed",
    "BadWearing", "NoEvening", "BadRow", "NoOrder", "HousesDiffer",
)
WITH_FIELD = {
    "BadName": ("name", "Bob"),
    "TakenName": ("name", "bob"),
    "BadPegs": ("pegs", None),
    "UnknownGuest": ("name", "zoe"),
    "BadDepth": ("depth", 0),
    "NotLet": ("step", ("out", "ada", "bob")),
    "BadStep": ("index", 3),
    "BadFact": ("fact", ("wore", "ada", None)),
    "BadNumber": ("number", -7),
    "BadTaking": ("index", 4),
    "BadTie": ("index", 5),
    "BadRule": ("index", 6),
    "BadNotation": ("line", 2),
}


class Errors(PromiseCase):
    def test_the_base_class_is_a_value_error(self):
        self.assertEqual(LeaveError.__bases__, (ValueError,))

    def test_each_error_is_a_direct_subclass(self):
        for word in list(WITHOUT_FIELDS) + list(WITH_FIELD):
            self.assertEqual(getattr(errors, word).__bases__, (LeaveError,), word)

    def test_errors_without_arguments(self):
        for word in WITHOUT_FIELDS:
            error = getattr(errors, word)()
            self.assertIsInstance(error, LeaveError, word)

    def test_errors_with_one_argument_have_it_as_a_field(self):
        for word, (field, value) in WITH_FIELD.items():
            error = getattr(errors, word)(value)
            self.same(getattr(error, field), value)

    def test_errors_can_be_raised_and_caught(self):
        for word, (_, value) in WITH_FIELD.items():
            with self.assertRaises(LeaveError):
                raise getattr(errors, word)(value)
