"""How far up two points hang together: ways between them, and walls around them."""

from heapq import heappop, heappush

from levelkind.errors import BadValue, NoPoint
from levelkind.frames import near_of, whole_mesh
from levelkind.grids import known_grid
from levelkind.ratios import fraction_of, ratio
from levelkind.surfaces import excess
from levelkind.values import integers


def joined(grid, one, other):
    """The greatest number at which two points are joined, and a way between them."""
    eighths, rows = whole_mesh(known_grid(grid))
    start, end = ends_of(eighths, one, other)
    eighth, way = highest_way(eighths, near_of(rows), start, end)
    return (ratio(eighth, 8), tuple(way))


def wall(grid, one, other):
    """A wall between two points for the greatest number at which they are joined."""
    eighths, rows = whole_mesh(known_grid(grid))
    start, end = ends_of(eighths, one, other)
    near = near_of(rows)
    eighth, _ = highest_way(eighths, near, start, end)
    return tuple(sorted(piece_over(eighths, near, start, eighth)))


def wall_holds(grid, one, other, number, value):
    """Whether the value is a wall between two points for this number."""
    eighths, rows = whole_mesh(known_grid(grid))
    start, end = ends_of(eighths, one, other)
    level = fraction_of(number)
    if level is None:
        raise BadValue(3)
    if not isinstance(value, (list, tuple)):
        return False
    if not value:
        return excess(eighths[start], level) <= 0
    members = {place: True for place in [integers(part, 3) for part in value]}
    if len(members) != len(value) or start not in members or end in members:
        return False
    if not all([place in eighths for place in members]):
        return False
    near = near_of(rows)
    beside = [place for member in members for place in near[member] if place not in members]
    return all([excess(eighths[place], level) <= 0 for place in beside])


def ends_of(eighths, one, other):
    """The places of two different points as tuples."""
    start = integers(one, 3)
    if start not in eighths:
        raise NoPoint(one)
    end = integers(other, 3)
    if end not in eighths:
        raise NoPoint(other)
    if start == end:
        raise BadValue(2)
    return (start, end)


def highest_way(eighths, near, start, end):
    """A way between two points whose least number is as great as it can be, behind eight times this number."""
    came = {start: start}
    waiting = [(-eighths[start], start)]
    least = eighths[start]
    at = start
    # The greatest point that has been met is always next: so none below the
    # least number of the best way is taken before the end is.
    while at != end:
        depth, at = heappop(waiting)
        least = min(least, -depth)
        for place in near[at]:
            if place not in came:
                came[place] = at
                heappush(waiting, (-eighths[place], place))
    way = [end]
    while way[-1] != start:
        way.append(came[way[-1]])
    return (least, way[::-1])


def piece_over(eighths, near, start, eighth):
    """The points with more than this number, told by eight times itself, that hang together with the first one."""
    if eighths[start] <= eighth:
        return []
    found = [start]
    seen = {start: True}
    waiting = [start]
    while waiting:
        at = waiting.pop()
        for place in near[at]:
            if place not in seen and eighths[place] > eighth:
                seen[place] = True
                found.append(place)
                waiting.append(place)
    return found
