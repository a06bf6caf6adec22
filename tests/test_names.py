"""Point 5: names."""

from leavetaking.names import is_name

from tests.helpers import PromiseCase


class Names(PromiseCase):
    def test_names_of_one_to_eight_characters(self):
        for value in ("a", "z", "m", "ab", "ada", "a1", "z9", "a0b1c2", "guest01", "abcdefgh", "a1234567", "zzzzzzzz"):
            self.assertIs(is_name(value), True, value)

    def test_too_short_and_too_long(self):
        for value in ("", "abcdefghi", "a12345678", "a" * 9, "a" * 100):
            self.assertIs(is_name(value), False, value)

    def test_a_figure_does_not_begin_a_name(self):
        for value in ("0", "9", "1a", "0ada", "12345678"):
            self.assertIs(is_name(value), False, value)

    def test_every_letter_and_figure_may_stand_in_a_name(self):
        for sign in "abcdefghijklmnopqrstuvwxyz":
            self.assertIs(is_name(sign), True, sign)
            self.assertIs(is_name("a" + sign), True, sign)
        for sign in "0123456789":
            self.assertIs(is_name(sign), False, sign)
            self.assertIs(is_name("a" + sign), True, sign)

    def test_no_other_character_of_ascii_may_stand_in_a_name(self):
        taken = "abcdefghijklmnopqrstuvwxyz0123456789"
        for sign in [chr(code) for code in range(128) if chr(code) not in taken]:
            for value in (sign, sign + "a", "a" + sign, "a" + sign + "a"):
                self.assertIs(is_name(value), False, repr(value))

    def test_letters_and_figures_of_other_scripts_may_not(self):
        for sign in ("\u00e4", "\u00df", "\u0430", "\u00b2", "\u0663", "\u00c4", "\uff41"):
            for value in (sign, "a" + sign, sign + "a"):
                self.assertIs(is_name(value), False, repr(value))

    def test_capital_letters_may_not(self):
        for value in ("A", "Ada", "aDa", "adA", "ADA"):
            self.assertIs(is_name(value), False, value)
