"""Notes of houses (point 103)."""

from leavetaking.errors import BadNotation
from leavetaking.houses import House
from leavetaking.names import is_name
from leavetaking.notelines import line_of, lines_of, note_of, number_of, words_at
from leavetaking.worncases import is_wearing


def format_house(house):
    """The note of the house."""
    return note_of(house_lines(house))


def parse_house(text):
    """The house of which the text is the note."""
    lines = lines_of(text)
    house, used = read_house(lines)
    if used < len(lines):
        raise BadNotation(used)
    return house


def house_lines(house):
    """The lines of the house."""
    lines = [line_of(("house",) + house.guests)]
    if house.pegs is not None:
        lines.append(line_of(["pegs", str(house.pegs)]))
    if house.brings != house.guests:
        lines.append(line_of(("brings",) + house.brings))
    for guest in house.guests:
        lines.append(line_of(["taste", guest] + [str(number) for number in house.taste(guest)]))
    for guest in house.guests:
        if house.depth(guest) != 1:
            lines.append(line_of(["depth", guest, str(house.depth(guest))]))
    return lines


def read_house(lines):
    """The house with whose lines these begin, and the number of its lines."""
    words = words_at(lines, 0)
    guests = words[1:]
    if words[:1] != ("house",) or not _are_guests(guests):
        raise BadNotation(0)
    house = House(guests)
    used = 1
    for reader in (_with_pegs, _with_brings):
        changed = reader(house, words_at(lines, used))
        if changed is not None:
            house = changed
            used += 1
    for guest in guests:
        house = _with_taste(house, guest, words_at(lines, used))
        if house is None:
            raise BadNotation(used)
        used += 1
    for guest in guests:
        changed = _with_depth(house, guest, words_at(lines, used))
        if changed is not None:
            house = changed
            used += 1
    return (house, used)


def _are_guests(names):
    """Whether these are different names, and not none."""
    return len(names) > 0 and all([is_name(name) for name in names]) and len(set(names)) == len(names)


# Each of the following gives the house with what a line of these words says, or None if it is no such line. A line
# that says what is so without it is not written.


def _with_pegs(house, words):
    pegs = number_of(words[1]) if len(words) == 2 and words[0] == "pegs" else None
    return None if pegs is None or pegs < 1 else house.with_pegs(pegs)


def _with_brings(house, words):
    cloaks = words[1:]
    is_such = words[:1] == ("brings",) and is_wearing(house, cloaks) and cloaks != house.guests
    return house.bringing(cloaks) if is_such else None


def _with_taste(house, guest, words):
    numbers = [number_of(word) for word in words[2:]]
    is_such = words[:2] == ("taste", guest) and len(numbers) == len(house) and None not in numbers
    return house.liking(guest, numbers) if is_such else None


def _with_depth(house, guest, words):
    depth = number_of(words[2]) if len(words) == 3 and words[:2] == ("depth", guest) else None
    return None if depth is None or depth < 2 else house.choosing(guest, depth)
