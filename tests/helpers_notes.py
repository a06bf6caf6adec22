"""What tests of notes need: notes that are spoiled, and which of their lines are right, read off the document."""

import re

from leavetaking.errors import BadNotation
from leavetaking.facts import is_fact

from tests.helpers import PromiseCase

NUMBER = re.compile("0|-?[1-9][0-9]*")
NAME = re.compile("[a-z][a-z0-9]{0,7}")


def first_wrong(text, is_right, is_whole):
    """The index of the first line that is not right, or the number of lines if more must follow, or None.

    `is_right` is passed the lines ahead, which are right, and the line; `is_whole` lines that are right.
    """
    lines = text.split("\n")
    behind = lines.pop()
    for at, line in enumerate(lines):
        if not is_right(lines[:at], line):
            return at
    return None if not behind and is_whole(lines) else len(lines)


def swapped(parts, joint):
    """The parts with one left out, doubled, or exchanged with the next one."""
    for at in range(len(parts)):
        yield joint.join(parts[:at] + parts[at + 1:])
        yield joint.join(parts[:at] + [parts[at]] + parts[at:])
        yield joint.join(parts[:at] + parts[at + 1:at + 2] + [parts[at]] + parts[at + 2:])


def spoiled(text, letters="a1 -:\n[("):
    """The text with one character, word or line added, left out, doubled or exchanged, and more that is not right."""
    yield ""
    yield "\n"
    yield text
    yield text[:-1]
    yield text + "\n"
    yield text + text
    yield " " + text
    yield text.replace("\n", " \n")
    yield text.replace("\n", "\n\n")
    yield text.replace("\n", "\n ")
    yield text.replace(" ", "  ")
    yield text.replace(" ", "")
    yield text.upper()
    for sign in ("0", "-", "+", "00", "-0"):
        yield re.sub(r"\b([0-9]+)\b", sign + r"\1", text)
        for found in re.finditer(r"(?<![a-z0-9-])-?[0-9]+\b", text):
            yield text[:found.start()] + sign + text[found.start():]
            yield text[:found.start()] + sign + text[found.end():]
    yield from swapped(list(text), "")
    yield from swapped(text.split("\n"), "\n")
    for at, line in enumerate(text.split("\n")):
        for changed in swapped(line.split(" "), " "):
            yield "\n".join(text.split("\n")[:at] + [changed] + text.split("\n")[at + 1:])
    for at in range(len(text) + 1):
        for letter in letters:
            yield text[:at] + letter + text[at:]
            yield text[:at] + letter + text[at + 1:]


class NoteCase(PromiseCase):
    """A test case with the checks of readers and writers."""

    def not_read(self, line, parse, *values):
        """The reader refuses the text, and tells this line."""
        self.same(self.refused(BadNotation, parse, *values).line, line)

    def spoil(self, text, parse, write, line_of, step=1, letters="a1 -:\n[("):
        """All spoiled texts are read as the document says; the numbers of those that are notes and of the others."""
        read, refused = 0, 0
        for found in list(dict.fromkeys(spoiled(text, letters)))[::step]:
            line = line_of(found)
            if line is None:
                # What is read is written again just so.
                self.assertEqual(write(parse(found)), found)
                read += 1
            else:
                try:
                    parse(found)
                except BadNotation as error:
                    self.assertEqual((error.line, type(error)), (line, BadNotation), repr(found))
                else:
                    self.fail(f"read {found!r}")
                refused += 1
        return read, refused


# Which lines are right.


def house_lines(lines):
    """The house of the note, as far as its lines are read: its guests, and the kinds of its lines."""
    return lines[0].split(" ")[1:], [line.split(" ")[0] for line in lines]


def is_house_line(ahead, line):
    """Whether the line is a right one of the note of a house."""
    word, *rest = line.split(" ")
    if not ahead:
        return word == "house" and len(rest) > 0 and all(NAME.fullmatch(name) for name in rest) and len(set(rest)) == len(rest)
    guests, kinds = house_lines(ahead)
    tasted = kinds.count("taste") if "taste" in kinds[1:] else 0
    if word == "pegs":
        return len(ahead) == 1 and len(rest) == 1 and bool(NUMBER.fullmatch(rest[0])) and int(rest[0]) >= 1
    if word == "brings":
        return kinds[-1] in ("house", "pegs") and sorted(rest) == sorted(guests) and rest != guests
    if word == "taste":
        return (tasted < len(guests) and rest[:1] == [guests[tasted]] and len(rest) == len(guests) + 1
                and all(NUMBER.fullmatch(number) for number in rest[1:]))
    if word == "depth":
        if tasted < len(guests) or len(rest) != 2 or rest[0] not in guests or not NUMBER.fullmatch(rest[1]):
            return False
        last = ahead[-1].split(" ")[1] if kinds[-1] == "depth" else None
        return (last is None or guests.index(last) < guests.index(rest[0])) and int(rest[1]) >= 2
    return False


def is_house_note(lines):
    """Whether the right lines are the whole note of a house."""
    return len(lines) > 1 and house_lines(lines)[1].count("taste") == len(house_lines(lines)[0])


def read_fact(house, text):
    """The fact that is written as this text, or None: the words are taken apart by the kind."""
    names = "[a-z0-9]+"
    event = "(in|out):(" + names + ")"
    number = "(0|[1-9][0-9]*)"
    forms = (
        ("(wore|spared) (%s) (%s)" % (names, names), lambda found: found.groups()),
        ("before %s %s" % (event, event), lambda found: ("before", found.groups()[:2], found.groups()[2:])),
        ("(chose|settled) (%s) %s" % (names, number), lambda found: found.groups()[:2] + (int(found.group(3)),)),
        ("(hung|bare|there|away) %s %s((?: %s)*)" % (event, number, names),
         lambda found: (found.group(1), found.groups()[1:3], int(found.group(4)), tuple(found.group(5).split(" ")[1:]))),
        ("(after|ahead) %s %s((?: (?:in|out):%s)*)" % (event, number, names),
         lambda found: (found.group(1), found.groups()[1:3], int(found.group(4)),
                        tuple([tuple(word.split(":")) for word in found.group(5).split(" ")[1:]]))),
    )
    for form, made in forms:
        found = re.fullmatch(form, text)
        if found:
            return made(found) if is_fact(house, made(found)) else None
    return None
