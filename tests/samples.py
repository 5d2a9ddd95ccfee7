"""Grids and wrong values for the tests, worked out without the package."""

from random import Random

BOUND = 10 ** 6
WORKED = (((0, 0, 0), 8), ((8, 8, 8), 8))


def cell_corners(cell):
    x, y, z, side = cell
    return [(x + a, y + b, z + c) for a in (0, side) for b in (0, side) for c in (0, side)]


def halves(cell):
    x, y, z, side = cell
    return [place + (side // 2,) for place in cell_corners((x, y, z, side // 2))]


def roots(size):
    a, b, c = size
    return [(x, y, z, 8) for x in range(0, 8 * a, 8) for y in range(0, 8 * b, 8) for z in range(0, 8 * c, 8)]


def cells(size, halved):
    found = set(roots(size))
    for cell in halved:
        found.remove(cell)
        found.update(halves(cell))
    return sorted(found)


def corners(size, halved):
    return sorted({place for cell in cells(size, halved) for place in cell_corners(cell)})


def grid(size, halved, number):
    """The grid in which number tells each corner's number by its place."""
    return (size, tuple(halved), tuple((place, number(place)) for place in corners(size, halved)))


def dull(place):
    """Numbers without many equal ones and without any symmetry."""
    x, y, z = place
    return (x * x * 7 + y * y * 13 + z * 29 + x * y * z * 3 + 11 * x) % 101 - 50


def noise(seed, bound):
    """Numbers that look drawn by lot, the same in every run."""
    source = Random(seed)
    return lambda place: source.randint(-bound, bound)


def worked():
    """The grid of the worked example."""
    corners_of_one = [(x, y, z) for x in (0, 8) for y in (0, 8) for z in (0, 8)]
    return ((1, 1, 1), (), tuple((p, 8 if p in ((0, 0, 0), (8, 8, 8)) else 0) for p in corners_of_one))


def flat(number=0):
    return grid((1, 1, 1), (), lambda place: number)


A = (0, 0, 0, 8)
B = (8, 0, 0, 8)
ONCE = ((2, 1, 1), (A,))
TWICE = ((2, 1, 1), (A, (4, 0, 0, 4)))
DIAGONAL = ((2, 2, 1), (A,))
SIX_ROOTS = ((2, 2, 2), tuple(roots((2, 2, 2))[:6]))
ONE_AND_FIVE = ((1, 1, 1), (A,) + tuple(halves(A)[:5]))
MIXED = ((2, 2, 2), ((0, 0, 0, 8), (8, 8, 0, 8), (8, 8, 8, 8), (4, 4, 4, 4), (8, 8, 4, 4), (12, 12, 8, 4)))
BARE = ((1, 1, 1), ())
LONG = ((1, 1, 2), ())
WIDE = ((2, 2, 2), ())

SHAPES = (BARE, LONG, WIDE, ONCE, TWICE, DIAGONAL, SIX_ROOTS, ONE_AND_FIVE, MIXED)


def grids():
    """Grids of all shapes, with numbers of several kinds."""
    found = [worked(), flat(), flat(-BOUND)]
    for k, (size, halved) in enumerate(SHAPES):
        found.append(grid(size, halved, noise(k, 2)))
        found.append(grid(size, halved, noise(100 + k, 50)))
        found.append(grid(size, halved, noise(200 + k, BOUND)))
    found.append(grid(*MIXED, dull))
    return found


def small_grids():
    """Some of them, for what takes long."""
    return [worked(), flat(3), grid(*ONCE, dull), grid(*TWICE, noise(5, 3)), grid(*DIAGONAL, noise(6, 40)),
            grid(*MIXED, noise(7, 9))]


def as_lists(value):
    """The same with lists for tuples at every level."""
    if isinstance(value, (list, tuple)):
        return [as_lists(part) for part in value]
    return value


def as_mixed(value, turn=0):
    """The same with a list for every second tuple."""
    if isinstance(value, (list, tuple)):
        parts = [as_mixed(part, turn + k + 1) for k, part in enumerate(value)]
        return parts if turn % 2 else tuple(parts)
    return value


def is_plain(value):
    """Whether the value consists of integers (no bools) and of tuples of no class of their own."""
    if type(value) is tuple:
        return all(is_plain(part) for part in value)
    return type(value) is int


def spoiled(value):
    """The value with one thing in it changed so that no list of integers of its form is left."""
    if not isinstance(value, (list, tuple)):
        return [True, False, None, str(value), (value,), [value], ()]
    found = [None, True, 0, 7, "", "abc", [value], (value, value), tuple(value) + (None,)]
    if value:
        found.append(value[:-1])
        found.append(value[1:])
        found.append(value + value[-1:])
        found.append(value[:1] + value)
    for k, part in enumerate(value):
        found.extend([value[:k] + (other,) + value[k + 1:] for other in spoiled(part)])
    return found


NO_FRACTIONS = (
    None, True, False, 0, 1, "", "1", "(1, 1)", (), (1,), (1, 1, 1), [[1, 1]], ((1, 1),), (True, 1), (1, True),
    (False, 1), (1, False), (1, 0), (0, 0), (0, 2), (2, 4), (-3, 9), (1, -1), (-1, -1), (0, -1), ("1", 1), (1, "1"),
    (None, 1), (1, None), ((1,), 1), (1, [1]), "12", (10 ** 30, 10 ** 30), (10 ** 30, 2), [2, 2], (6, 3), (1, 1, None),
)
