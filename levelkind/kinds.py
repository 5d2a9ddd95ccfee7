"""The kinds of what is above a level, and the points at which they can change."""

from levelkind.errors import NoPoint
from levelkind.frames import euler_share, groups_along, near_of, on_side, ordered, parts_of, whole_mesh
from levelkind.grids import known_grid
from levelkind.groups import groups
from levelkind.meshes import cells_at, eighths_of, mesh_of
from levelkind.ratios import ratio
from levelkind.surfaces import excess, known_level
from levelkind.values import integers


def kind(grid, level):
    """The numbers of pieces, tunnels and hollows above the level."""
    known = known_grid(grid)
    return kind_at(known, known_level(level))


def kind_below(grid, level):
    """The numbers of pieces, tunnels and hollows below the level."""
    known = known_grid(grid)
    at = known_level(level)
    eighths, rows = whole_mesh(known)
    below = [place for place in eighths if excess(eighths[place], at) < 0]
    return kinds_along(ordered(eighths), rows, known[0])[len(below)]


def kinds(grid):
    """For all levels the triples (low, high, kind), ascending."""
    return kinds_of(known_grid(grid))


def around(grid, place):
    """The numbers of parts and the Euler number of the upper part around a point."""
    known = known_grid(grid)
    found = integers(place, 3)
    near = [] if found is None else cells_at(known, found)
    rows = [row for _, many in mesh_of(known, near) for row in many if found in row]
    if not rows:
        raise NoPoint(place)
    return around_of(found, rows, eighths_of(known, near))


def turning(grid):
    """The places of the points around which the kind can change, ordered by number, equal ones by place."""
    known = known_grid(grid)
    eighths, rows = whole_mesh(known)
    homes = {place: [] for place in eighths}
    for row in rows:
        for place in row:
            homes[place].append(row)
    return tuple([place for place in ordered(eighths) if around_of(place, homes[place], eighths) != (1, 1)])


def kind_at(known, level):
    """What kind returns for a grid and a level that are checked."""
    eighths, rows = whole_mesh(known)
    above = [place for place in eighths if excess(eighths[place], level) >= 0]
    return kinds_along(ordered(eighths)[::-1], rows, known[0])[len(above)]


def kinds_of(known):
    """What kinds returns for a grid that is checked."""
    eighths, rows = whole_mesh(known)
    order = ordered(eighths)
    told = kinds_along(order[::-1], rows, known[0])
    # All points from the first one with a number on are above this number.
    firsts = [k for k in range(len(order)) if k == 0 or eighths[order[k]] != eighths[order[k - 1]]]
    low = None
    found = []
    for first, beyond in zip(firsts, firsts[1:] + [len(order)]):
        here = told[len(order) - first]
        if here != told[len(order) - beyond]:
            high = ratio(eighths[order[first]], 8)
            found.append((low, high, here))
            low = high
    return tuple(found + [(low, None, told[0])])


def kinds_along(order, rows, size):
    """The kinds of what the first points in this order make: of none, of one, and so on to all.

    The others are what is beyond the level.
    """
    near = near_of(rows)
    border = {place: True for place in order if on_side(place, size)}
    pieces = groups_along(order, near, {})
    hollows = groups_along(order[::-1], near, border)[::-1]
    eulers = eulers_along(order, rows)
    return [(piece, piece + hollow - euler, hollow) for piece, hollow, euler in zip(pieces, hollows, eulers)]


def eulers_along(order, rows):
    """The Euler numbers of the frames of the first points in this order: of none, of one, and so on to all."""
    spots = {place: k for k, place in enumerate(order)}
    parts = {part: True for row in rows for part in parts_of(sorted([spots[place] for place in row]))}
    shares = [0] * len(order)
    for part in parts:
        # A part is in the frame as soon as the last of its points is.
        shares[part[-1]] += euler_share(part)
    found = [0]
    for share in shares:
        found.append(found[-1] + share)
    return found


def around_of(place, rows, eighths):
    """What around returns for a point, by all tetrahedra that have it."""
    least = (eighths[place], place)
    parts = {}
    for row in rows:
        for part in parts_of([point for point in row if (eighths[point], point) > least]):
            parts[part] = True
    return (len(groups(list(parts))), sum([euler_share(part) for part in parts]))
