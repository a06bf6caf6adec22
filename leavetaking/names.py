"""Names of guests (point 5)."""


def is_name(value):
    """Whether the string is a name."""
    if not 1 <= len(value) <= 8 or not _is_letter(value[0]):
        return False
    return all([_is_letter(sign) or "0" <= sign <= "9" for sign in value])


def _is_letter(sign):
    # Compared, not asked by isalpha and the like: those take letters of all scripts.
    return "a" <= sign <= "z"
