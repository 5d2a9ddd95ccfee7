"""The surface at a level: its polygons and sheets, and the room above it."""

from levelkind.errors import BadValue
from levelkind.grids import ROOT, cells_of, known_grid
from levelkind.groups import groups
from levelkind.meshes import cells_at, eighths_of, mesh_of, neighbours_of
from levelkind.ratios import added, fraction_of, ratio, total
from levelkind.values import integers, is_row
from levelkind.vectors import crossed, dotted, spanned, step


def drawn(grid, level):
    """The pairs (cell, polygons) of all cells that have any, ascending."""
    known = known_grid(grid)
    return drawn_at(known, known_level(level))


def place_of(grid, level, value):
    """The place of a cut of the level."""
    known = known_grid(grid)
    at = known_level(level)
    cut = cut_of(known, value)
    if cut is None:
        raise BadValue(2)
    one, other = cut
    eighths = eighths_of(known, cells_at(known, one))
    over = excess(eighths[one], at)
    under = -excess(eighths[other], at)
    if over < 0 or under <= 0:
        raise BadValue(2)
    return tuple([ratio(a * under + b * over, over + under) for a, b in zip(one, other)])


def room(grid, level):
    """The volume of all places above the level."""
    known = known_grid(grid)
    at = known_level(level)
    rows = cells_of(known)
    eighths = eighths_of(known, rows)
    filled = 0
    shares = []
    for _, found in mesh_of(known, rows):
        for row in found:
            volume = abs(spanned(step(row[0], row[1]), step(row[0], row[2]), step(row[0], row[3])))
            heights = [excess(eighths[point], at) for point in row]
            if min(heights) >= 0:
                filled = filled + volume
            elif max(heights) >= 0:
                top, bottom = share(heights)
                shares.append(ratio(volume * top, 6 * bottom))
    return added(ratio(filled, 6), total(shares))


def sheets(grid, level):
    """The pair (euler, rims) of each sheet of the surface, ascending."""
    known = known_grid(grid)
    found = drawn_at(known, known_level(level))
    polygons = [polygon for _, rows in found for polygon in rows]
    together = groups([sides_of(polygon) for polygon in polygons])
    return tuple(sorted([sheet([polygons[k] for k in group], known[0]) for group in together]))


def known_level(level):
    """The level with a tuple."""
    found = fraction_of(level)
    if found is None:
        raise BadValue(1)
    return found


def excess(eighth, level):
    """By how much a number is greater than the level, times what is above 0 and the same for all numbers.

    The number is told by eight times itself.
    """
    return eighth * level[1] - 8 * level[0]


def drawn_at(known, level):
    """What drawn returns for a grid and a level that are checked."""
    rows = cells_of(known)
    eighths = eighths_of(known, rows)
    above = {place: excess(eighths[place], level) >= 0 for place in eighths}
    found = []
    for cell, near in mesh_of(known, rows):
        polygons = [polygon_of(row, above) for row in near if is_cut(row, above)]
        if polygons:
            found.append((cell, tuple(sorted(polygons))))
    return tuple(found)


def is_cut(row, above):
    """Whether a tetrahedron has points above and below."""
    found = [above[point] for point in row]
    return any(found) and not all(found)


def polygon_of(row, above):
    """The polygon of a tetrahedron that has points above and below."""
    high = [point for point in row if above[point]]
    low = [point for point in row if not above[point]]
    cuts = [(one, other) for one in high for other in low]
    if len(cuts) == 4:
        # Cuts that follow one another share a point.
        cuts = [cuts[0], cuts[1], cuts[3], cuts[2]]
    first, second, third = [doubled_middle(cut) for cut in cuts[:3]]
    normal = crossed(step(first, second), step(second, third))
    # From a cut's lower point to its upper one is towards the points above.
    if dotted(normal, step(cuts[0][1], cuts[0][0])) < 0:
        cuts = cuts[::-1]
    at = cuts.index(min(cuts))
    return tuple(cuts[at:] + cuts[:at])


def doubled_middle(cut):
    """Twice the middle of a cut's edge."""
    one, other = cut
    return (one[0] + other[0], one[1] + other[1], one[2] + other[2])


def sides_of(polygon):
    """The sides of a polygon as pairs of cuts, the lesser cut first."""
    return [tuple(sorted(pair)) for pair in zip(polygon, polygon[1:] + polygon[:1])]


def sheet(polygons, size):
    """The pair (euler, rims) of the sheet of these polygons in a box of this size."""
    sides = sorted({side for polygon in polygons for side in sides_of(polygon)})
    cuts = len({cut for polygon in polygons for cut in polygon})
    rims = groups([side for side in sides if on_border(side, size)])
    return (cuts - len(sides) + len(polygons), len(rims))


def on_border(side, size):
    """Whether a side of a polygon lies on the border of the box."""
    places = [place for cut in side for place in cut]
    for axis in range(3):
        for end in (0, ROOT * size[axis]):
            if all([place[axis] == end for place in places]):
                return True
    return False


def cut_of(known, value):
    """The value as a pair of places of neighbours, or None for what is none."""
    if not is_row(value, 2):
        return None
    one = integers(value[0], 3)
    other = integers(value[1], 3)
    if one is None or other not in neighbours_of(known, one):
        return None
    return (one, other)


def share(heights):
    """The part of a tetrahedron that is above, as (top, bottom), by its points' heights over the level.

    There are heights from 0 on and ones below 0.
    """
    ups = [over for over in heights if over >= 0]
    downs = [-over for over in heights if over < 0]
    bottom = 1
    for up in ups:
        for down in downs:
            bottom = bottom * (up + down)
    if len(ups) == 1:
        return (ups[0] ** 3, bottom)
    if len(downs) == 1:
        return (bottom - downs[0] ** 3, bottom)
    return (wedge(ups, downs), bottom)


def wedge(ups, downs):
    """What share has above, if two points of the tetrahedron are above and two below.

    The part above is three tetrahedra between the points above and the four cuts.
    """
    p, q = ups
    d, e = downs
    return p * p * (q + d) * (q + e) + p * q * e * (q + d) + q * q * d * (p + e)
