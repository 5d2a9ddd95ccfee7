"""Grids as texts."""

from levelkind.errors import BadText
from levelkind.grids import corners_of, fine_cells, halved_of, is_number, known_grid

# No integer in a text of a grid has more digits.
MOST_DIGITS = 7


def printed(grid):
    """The text of a grid."""
    size, halved, numbers = known_grid(grid)
    lines = [line_of("size", size)]
    lines.extend([line_of("halve", cell) for cell in halved])
    lines.extend([line_of("number", place + (number,)) for place, number in numbers])
    return "".join([line + "\n" for line in lines])


def parse(text):
    """The grid of such a text."""
    lines = lines_of(text)
    size = size_in(lines)
    many = halve_lines(lines)
    halved = ()
    for at in range(1, 1 + many):
        halved = halved_of(halved + (integers_in(lines[at], "halve", 4),), size)
        if halved is None:
            raise BadText(at)
    places = corners_of(fine_cells(size, halved))
    numbers = []
    for at, place in enumerate(places, start=1 + many):
        found = integers_in(lines[at], "number", 4) if at < len(lines) else None
        if found is None or found[:3] != place or not is_number(found[3]):
            raise BadText(at)
        numbers.append((place, found[3]))
    if len(lines) > 1 + many + len(places):
        raise BadText(1 + many + len(places))
    return (size, halved, tuple(numbers))


def line_of(word, row):
    """The line of a word and integers."""
    return " ".join([word] + [str(part) for part in row])


def lines_of(text):
    """The lines of the text."""
    if not isinstance(text, str):
        raise BadText(0)
    lines = text.split("\n")
    return lines if lines[-1] else lines[:-1]


def size_in(lines):
    """The size that the first line tells."""
    found = integers_in(lines[0], "size", 3) if lines else None
    if found is None or min(found) < 1 or max(found) > 2:
        raise BadText(0)
    return found


def halve_lines(lines):
    """How many lines behind the first one begin as those of halved cells do, one after the other."""
    many = 0
    while 1 + many < len(lines) and lines[1 + many].startswith("halve "):
        many += 1
    return many


def integers_in(line, word, many):
    """The integers in a line of the word and so many of them, or None for another line."""
    words = line.split(" ")
    found = [integer_in(part) for part in words[1:]]
    if words[0] != word or len(found) != many or None in found:
        return None
    return tuple(found)


def integer_in(word):
    """The integer that a word tells in the only way in which it can be written, or None."""
    digits = word.removeprefix("-")
    if len(digits) > MOST_DIGITS or not digits.isdecimal():
        return None
    found = int(word)
    return found if str(found) == word else None
