"""Grids of halved cells: their cells, their corners, and what is a grid."""

from levelkind.errors import BadValue
from levelkind.values import integers, is_integer, is_row

ROOT = 8
MOST_HALVED = 6
MOST_NUMBER = 10 ** 6


def is_grid(value):
    """Whether the value is a grid."""
    return grid_of(value) is not None


def cells(grid):
    """The cells of the grid, ascending."""
    return tuple(cells_of(known_grid(grid)))


def corners(grid):
    """The corners of the grid, ascending."""
    return tuple([place for place, _ in known_grid(grid)[2]])


def known_grid(grid):
    """The grid with tuples at every level."""
    found = grid_of(grid)
    if found is None:
        raise BadValue(0)
    return found


def grid_of(value):
    """The value as a grid with tuples at every level, or None for what is none."""
    if not is_row(value, 3):
        return None
    size = integers(value[0], 3)
    if size is None or min(size) < 1 or max(size) > 2:
        return None
    halved = halved_of(value[1], size)
    if halved is None:
        return None
    numbers = numbers_of(value[2], corners_of(fine_cells(size, halved)))
    if numbers is None:
        return None
    return (size, halved, numbers)


def halved_of(value, size):
    """The value as the halved cells of a grid of this size, or None for what is no such sequence."""
    if not isinstance(value, (list, tuple)) or len(value) > MOST_HALVED:
        return None
    found = [integers(part, 4) for part in value]
    roots = [cell for cell in root_cells(size) if cell in found]
    seconds = [cell for root in roots for cell in halves(root) if cell in found]
    if found != roots + sorted(seconds):
        return None
    return tuple(found)


def numbers_of(value, places):
    """The value as pairs of these places and their numbers, or None for what is no such sequence."""
    if not is_row(value, len(places)):
        return None
    found = []
    for place, pair in zip(places, value):
        if not is_row(pair, 2) or integers(pair[0], 3) != place or not is_number(pair[1]):
            return None
        found.append((place, pair[1]))
    return tuple(found)


def is_number(value):
    """Whether a corner can have this number."""
    return is_integer(value) and -MOST_NUMBER <= value <= MOST_NUMBER


def root_cells(size):
    """The root cells of a box, ascending."""
    a, b, c = [ROOT * part for part in size]
    return [(x, y, z, ROOT) for x in range(0, a, ROOT) for y in range(0, b, ROOT) for z in range(0, c, ROOT)]


def halves(cell):
    """The eight cells of half the side that fill the cell, ascending."""
    x, y, z, side = cell
    half = side // 2
    return [place + (half,) for place in cell_corners((x, y, z, half))]


def cell_corners(cell):
    """The eight corners of a cell, ascending."""
    x, y, z, side = cell
    return [(a, b, c) for a in (x, x + side) for b in (y, y + side) for c in (z, z + side)]


def fine_cells(size, halved):
    """The cells of a box in which these cells are halved, ascending."""
    whole = root_cells(size) + [half for cell in halved for half in halves(cell)]
    return sorted([cell for cell in whole if cell not in halved])


def cells_of(known):
    """The cells of a grid, ascending."""
    return fine_cells(known[0], known[1])


def corners_of(rows):
    """The corners of these cells, ascending."""
    return sorted({place for cell in rows for place in cell_corners(cell)})
