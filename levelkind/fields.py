"""Fields: grids whose numbers and cells change."""

from levelkind.errors import BadValue, NoCell, NoPoint, TooMany
from levelkind.grids import MOST_HALVED, cells_of, corners_of, fine_cells, halves, is_number, known_grid
from levelkind.kinds import kind_at, kinds_of
from levelkind.meshes import LEAST_SIDE, cells_at, corner_numbers
from levelkind.ratios import fraction_of
from levelkind.surfaces import drawn_at
from levelkind.values import integers, is_row


class Field:
    """A grid that changes."""

    def __init__(self, grid):
        self._grid = known_grid(grid)

    def __eq__(self, other):
        return isinstance(other, Field) and self._grid == other._grid

    def grid(self):
        """The grid."""
        return self._grid

    def drawn(self, level):
        """The pairs (cell, polygons) of all cells that have any, ascending."""
        return drawn_at(self._grid, first_level(level))

    def kind(self, level):
        """The numbers of pieces, tunnels and hollows above the level."""
        return kind_at(self._grid, first_level(level))

    def kinds(self):
        """For all levels the triples (low, high, kind), ascending."""
        return kinds_of(self._grid)

    def copy(self):
        """A field that is the same and changes independently."""
        return Field(self._grid)

    def change(self, place, number):
        """Changes the number of a corner; the cells that have it."""
        numbers = corner_numbers(self._grid)
        found = integers(place, 3)
        if found not in numbers:
            raise NoPoint(place)
        if not is_number(number):
            raise BadValue(1)
        numbers[found] = number
        self._grid = grid_with(self._grid[0], self._grid[1], numbers)
        return tuple(cells_at(self._grid, found))

    def halve(self, cell, numbers):
        """Halves a cell of the grid; the cells before that meet it."""
        size, halved, _ = self._grid
        before = cells_of(self._grid)
        found = integers(cell, 4)
        if found not in before or found[3] <= LEAST_SIDE:
            raise NoCell(cell)
        if len(halved) == MOST_HALVED:
            raise TooMany()
        # Root cells stand ahead of their halves.
        more = tuple(sorted(halved + (found,), key=lambda part: (-part[3], part)))
        known = corner_numbers(self._grid)
        places = corners_of(fine_cells(size, more))
        added = numbers_at(numbers, [place for place in places if place not in known])
        if added is None:
            raise BadValue(1)
        known.update(added)
        self._grid = grid_with(size, more, known)
        return tuple(cells_that_meet(found, before))

    def join(self, cell):
        """Makes one cell of its eight halves; the cells after it that meet it."""
        size, halved, _ = self._grid
        before = cells_of(self._grid)
        found = integers(cell, 4)
        if found not in halved or not all([half in before for half in halves(found)]):
            raise NoCell(cell)
        less = tuple([part for part in halved if part != found])
        self._grid = grid_with(size, less, corner_numbers(self._grid))
        return tuple(cells_that_meet(found, cells_of(self._grid)))


def first_level(level):
    """The level, passed as the only argument, with a tuple."""
    found = fraction_of(level)
    if found is None:
        raise BadValue(0)
    return found


def grid_with(size, halved, numbers):
    """The grid of a box and its halved cells that takes its numbers from these."""
    places = corners_of(fine_cells(size, halved))
    return (size, halved, tuple([(place, numbers[place]) for place in places]))


def numbers_at(value, places):
    """The value as a dict of these places and their numbers, or None for what is no such sequence of pairs."""
    if not is_row(value, len(places)):
        return None
    found = {}
    for pair in value:
        if not is_row(pair, 2) or integers(pair[0], 3) not in places or not is_number(pair[1]):
            return None
        found[tuple(pair[0])] = pair[1]
    return found if len(found) == len(places) else None


def cells_that_meet(cell, rows):
    """Those of the cells whose cubes, borders included, meet that of the cell."""
    side = cell[3]
    return [row for row in rows if all([row[k] <= cell[k] + side and cell[k] <= row[k] + row[3] for k in range(3)])]
