"""The mesh of a grid: its squares, points and tetrahedra, and the field in them."""

from math import lcm

from levelkind.errors import BadValue, NoCell, NoPoint
from levelkind.grids import ROOT, cell_corners, cells_of, known_grid
from levelkind.ratios import fraction_of, ratio
from levelkind.values import integers, is_row
from levelkind.vectors import scaled, shifted, spanned, step

LEAST_SIDE = 2
# The two other axes of each axis.
ACROSS = ((1, 2), (0, 2), (0, 1))


def squares(grid, cell):
    """The squares of a cell of the grid, ascending."""
    known = known_grid(grid)
    found = integers(cell, 4)
    if found not in cells_of(known):
        raise NoCell(cell)
    return tuple(squares_of(found, corner_numbers(known)))


def points(grid):
    """The pairs (place, number) of all points, ascending."""
    known = known_grid(grid)
    found = eighths_of(known, cells_of(known))
    return tuple([(place, ratio(found[place], 8)) for place in sorted(found)])


def tetrahedra(grid):
    """For every cell, ascending, the pair (cell, tetrahedra)."""
    known = known_grid(grid)
    return tuple([(cell, tuple(rows)) for cell, rows in mesh_of(known, cells_of(known))])


def neighbours(grid, place):
    """The places of the neighbours of a point, ascending."""
    known = known_grid(grid)
    found = integers(place, 3)
    around = [] if found is None else neighbours_of(known, found)
    if not around:
        raise NoPoint(place)
    return tuple(around)


def height(grid, place):
    """The field at a place in the box."""
    known = known_grid(grid)
    spot = spot_of(place, known[0])
    if spot is None:
        raise BadValue(1)
    whole, parts = spot
    near = [cell for cell in cells_of(known) if has_place(cell, whole, parts)][:1]
    rows = mesh_of(known, near)[0][1]
    home = [row for row in rows if min(weights(row, whole, parts)) >= 0][0]
    counts = weights(home, whole, parts)
    eighths = eighths_of(known, near)
    top = sum([count * eighths[point] for count, point in zip(counts, home)])
    return ratio(top, 8 * sum(counts))


def corner_numbers(known):
    """The numbers of the corners, by their places."""
    return {place: number for place, number in known[2]}


def faces(cell):
    """The six faces of a cell."""
    x, y, z, side = cell
    least = (x, y, z)
    near = [(least, axis, side) for axis in range(3)]
    return near + [(shifted(least, axis, side), axis, side) for axis in range(3)]


def squares_of(cell, numbers):
    """The squares of a cell, ascending, in the mesh with these numbers at its corners."""
    found = []
    waiting = faces(cell)
    while waiting:
        square = waiting.pop()
        if square_middle(square) in numbers:
            waiting.extend(quarters(square))
        else:
            found.append(square)
    return sorted(found)


def quarters(square):
    """The four squares of half the side that fill the square."""
    place, axis, side = square
    half = side // 2
    return [(corner, axis, half) for corner in square_corners((place, axis, half))]


def square_corners(square):
    """The four corners of a square, in the sequence in which they stand around it."""
    place, axis, side = square
    one, other = ACROSS[axis]
    beside = shifted(place, one, side)
    return [place, beside, shifted(beside, other, side), shifted(place, other, side)]


def square_middle(square):
    """The middle of a square."""
    place, axis, side = square
    one, other = ACROSS[axis]
    return shifted(shifted(place, one, side // 2), other, side // 2)


def cell_middle(cell):
    """The middle of a cell."""
    x, y, z, side = cell
    half = side // 2
    return (x + half, y + half, z + half)


def rim(square, numbers):
    """The corners of the grid on the border of a square, in the sequence around it."""
    turns = square_corners(square)
    found = []
    for start, end in zip(turns, turns[1:] + turns[:1]):
        found.extend([place for place in between(start, end, square[2]) if place in numbers])
    return found


def between(start, end, side):
    """The places on a square's side where corners can be, without its end."""
    x, y, z = step(start, end)
    a, b, c = start
    return [(a + x * k // side, b + y * k // side, c + z * k // side) for k in range(0, side, LEAST_SIDE)]


def tetrahedra_of(cell, numbers):
    """The tetrahedra of a cell, ascending."""
    top = cell_middle(cell)
    found = []
    for square in squares_of(cell, numbers):
        middle = square_middle(square)
        places = rim(square, numbers)
        for one, other in zip(places, places[1:] + places[:1]):
            found.append(tuple(sorted([top, middle, one, other])))
    return sorted(found)


def mesh_of(known, rows):
    """For each of these cells of the grid the pair (cell, list of its tetrahedra)."""
    numbers = corner_numbers(known)
    return [(cell, tetrahedra_of(cell, numbers)) for cell in rows]


def eighths_of(known, rows):
    """Eight times the numbers of the grid's corners and of the middles of these cells and their squares.

    They are integers, since each number is an integer or the mean of four or eight.
    """
    numbers = corner_numbers(known)
    found = {place: 8 * numbers[place] for place in numbers}
    for cell in rows:
        found[cell_middle(cell)] = sum([numbers[place] for place in cell_corners(cell)])
        for square in squares_of(cell, numbers):
            found[square_middle(square)] = 2 * sum([numbers[place] for place in square_corners(square)])
    return found


def cells_at(known, place):
    """The cells of the grid whose cubes, borders included, have the place."""
    return [cell for cell in cells_of(known) if has_place(cell, place, 1)]


def neighbours_of(known, place):
    """The neighbours of a point, ascending; none for what is no place of a point."""
    near = mesh_of(known, cells_at(known, place))
    rows = [row for _, found in near for row in found if place in row]
    return sorted({point for row in rows for point in row if point != place})


def has_place(cell, whole, parts):
    """Whether the cube of a cell, border included, has the place whole by parts."""
    side = cell[3]
    return all([cell[k] * parts <= whole[k] <= (cell[k] + side) * parts for k in range(3)])


def spot_of(value, size):
    """A place in the box as (triple of integers, common bottom), or None for what is none."""
    if not is_row(value, 3):
        return None
    found = [fraction_of(part) for part in value]
    if None in found:
        return None
    parts = lcm(found[0][1], found[1][1], found[2][1])
    whole = tuple([top * (parts // bottom) for top, bottom in found])
    if not all([0 <= whole[k] <= ROOT * size[k] * parts for k in range(3)]):
        return None
    return (whole, parts)


def weights(row, whole, parts):
    """How much each point of a tetrahedron counts at the place whole by parts.

    None is below 0 just where the tetrahedron has the place.
    """
    away = step(scaled(row[0], parts), whole)
    u, v, w = [step(row[0], point) for point in row[1:]]
    volume = spanned(u, v, w)
    others = [spanned(away, v, w), spanned(u, away, w), spanned(u, v, away)]
    found = [volume * parts - sum(others)] + others
    return found if volume > 0 else [-count for count in found]
