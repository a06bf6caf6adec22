"""Lines and words of notes (point 102)."""


def note_of(lines):
    """The note with these lines."""
    return "".join([line + "\n" for line in lines])


def line_of(words):
    """The line with these words."""
    return " ".join(words)


def lines_of(text):
    """The lines of the text; what follows the last newline is None, because it is never right."""
    parts = text.split("\n")
    *lines, behind = parts
    return lines + [None] if behind else lines


def words_at(lines, index):
    """The words of this line; none if there is no such line, or if it is never right."""
    if index >= len(lines) or lines[index] is None:
        return ()
    return words_of(lines[index])


def words_of(line):
    """The words of the line. Where spaces stand wrongly, there are empty words."""
    return tuple(line.split(" "))


def number_of(word):
    """The number that is written as this word, or None."""
    if not word.removeprefix("-").isdigit():
        return None
    number = int(word)
    # Leading zeros and -0 are not written.
    return number if str(number) == word else None
