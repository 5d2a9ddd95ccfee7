"""The points of a mesh in their order, and what hangs together of it or stands between them."""

from levelkind.grids import ROOT, cells_of
from levelkind.meshes import eighths_of, mesh_of


def whole_mesh(known):
    """Eight times the number of each point of a grid, by their places, and all tetrahedra."""
    rows = cells_of(known)
    return (eighths_of(known, rows), [row for _, found in mesh_of(known, rows) for row in found])


def ordered(eighths):
    """The points, ordered by number, equal ones by place."""
    return [place for _, place in sorted([(eighths[place], place) for place in eighths])]


def near_of(rows):
    """For each point of these tetrahedra its neighbours in them."""
    found = {}
    for row in rows:
        for place in row:
            near = found.setdefault(place, {})
            for other in row:
                if other != place:
                    near[other] = True
    return {place: list(found[place]) for place in found}


def parts_of(row):
    """All that a row of points has in it: the points, edges, triangles and tetrahedra, points in the row's sequence."""
    found = [()]
    for place in row:
        found = found + [part + (place,) for part in found]
    return found[1:]


def euler_share(part):
    """What a point, edge, triangle or tetrahedron adds to an Euler number."""
    return 1 if len(part) in (1, 3) else -1


def on_side(place, size):
    """Whether a place of a box of this size is on its border."""
    return any([place[axis] in (0, ROOT * size[axis]) for axis in range(3)])


def groups_along(order, near, closed):
    """How many groups, hanging together by neighbours, the first points in this order make: of none, of one, and so on.

    A group that has a point of closed does not count.
    """
    leads = {}
    shares = {}
    many = 0
    found = [many]
    for place in order:
        leads[place] = place
        shares[place] = 0 if place in closed else 1
        many += shares[place]
        for other in near[place]:
            if other in leads:
                lead = lead_of(leads, other)
                if lead != place:
                    leads[lead] = place
                    both = min(shares[lead], shares[place])
                    many += both - shares[lead] - shares[place]
                    shares[place] = both
        found.append(many)
    return found


def lead_of(leads, place):
    """The point that stands for the group of this one."""
    while leads[place] != place:
        # Halves the way for those who ask next.
        leads[place] = leads[leads[place]]
        place = leads[place]
    return place
