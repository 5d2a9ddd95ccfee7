"""The mesh and the field once more, straight from their description and with fractions."""

from fractions import Fraction
from math import atan2

import samples


def middle(places):
    return tuple(Fraction(sum(place[k] for place in places), len(places)) for k in range(3))


def whole(place):
    assert all(part.denominator == 1 for part in place)
    return tuple(int(part) for part in place)


def square_corners(square):
    place, axis, side = square
    found = [place]
    for other in range(3):
        if other != axis:
            found += [p[:other] + (p[other] + side,) + p[other + 1:] for p in found]
    return found


def has(square, place):
    """Whether the square, border included, has the place."""
    least, axis, side = square
    return all(least[k] <= place[k] <= least[k] + (0 if k == axis else side) for k in range(3))


def is_on_rim(square, place):
    least, axis, side = square
    ends = [place[k] in (least[k], least[k] + side) for k in range(3) if k != axis]
    return has(square, place) and any(ends)


class Mesh:
    """A grid's cells, squares, tetrahedra and points."""

    def __init__(self, grid):
        self.size, self.halved, numbers = grid
        self.numbers = {place: Fraction(number) for place, number in numbers}
        self.cells = samples.cells(self.size, self.halved)
        self.squares = {cell: self.squares_of(cell) for cell in self.cells}
        self.points = dict(self.numbers)
        for cell in self.cells:
            self.add(samples.cell_corners(cell))
            for square in self.squares[cell]:
                self.add(square_corners(square))
        self.tetrahedra = {cell: self.tetrahedra_of(cell) for cell in self.cells}

    def add(self, places):
        self.points[whole(middle(places))] = sum(self.numbers[place] for place in places) / len(places)

    def squares_of(self, cell):
        x, y, z, side = cell
        found = []
        for axis in range(3):
            for by in (0, side):
                place = [x, y, z]
                place[axis] += by
                found += self.refined((tuple(place), axis, side))
        return sorted(found)

    def refined(self, square):
        place, axis, side = square
        if middle(square_corners(square)) not in self.numbers:
            return [square]
        quarters = [(place, axis, side // 2) for place in square_corners((place, axis, side // 2))]
        return [part for quarter in quarters for part in self.refined(quarter)]

    def tetrahedra_of(self, cell):
        top = whole(middle(samples.cell_corners(cell)))
        found = []
        for square in self.squares[cell]:
            heart = whole(middle(square_corners(square)))
            one, other = [k for k in range(3) if k != square[1]]
            rim = [place for place in self.numbers if is_on_rim(square, place)]
            rim.sort(key=lambda place: atan2(place[other] - heart[other], place[one] - heart[one]))
            for k, place in enumerate(rim):
                found.append(tuple(sorted([top, heart, place, rim[k - 1]])))
        return sorted(found)

    def all_tetrahedra(self):
        return [row for cell in self.cells for row in self.tetrahedra[cell]]

    def edges(self):
        return {(p, q) for row in self.all_tetrahedra() for p in row for q in row if p != q}

    def heights(self, place):
        """The field at a place, once by each tetrahedron that has it."""
        found = []
        for row in self.all_tetrahedra():
            if all(min(p[k] for p in row) <= place[k] <= max(p[k] for p in row) for k in range(3)):
                counts = weights(row, place)
                if min(counts) >= 0:
                    found.append(sum(count * self.points[p] for count, p in zip(counts, row)))
        return found


def minus(one, other):
    return tuple(a - b for a, b in zip(one, other))


def cross(one, other):
    a, b, c = one
    d, e, f = other
    return (b * f - c * e, c * d - a * f, a * e - b * d)


def dot(one, other):
    return sum(a * b for a, b in zip(one, other))


def volume(p, q, r, s):
    """The volume of a tetrahedron, with a sign."""
    return Fraction(dot(cross(minus(q, p), minus(r, p)), minus(s, p))) / 6


def weights(row, place):
    p, q, r, s = row
    parts = [volume(place, q, r, s), volume(p, place, r, s), volume(p, q, place, s), volume(p, q, r, place)]
    return [part / volume(p, q, r, s) for part in parts]


def above(numbers, level):
    """The part of a tetrahedron with these numbers that is above the level.

    Each point in turn is the apex of the cone in which its number exceeds the level;
    this asks for different numbers.
    """
    found = Fraction(0)
    for k, number in enumerate(numbers):
        if number > level:
            part = Fraction(number - level) ** 3
            for other in numbers[:k] + numbers[k + 1:]:
                part /= number - other
            found += part
    return found


def room(mesh, level):
    """The room above, for a mesh without equal numbers in a tetrahedron."""
    return sum(abs(volume(*row)) * above([mesh.points[p] for p in row], level) for row in mesh.all_tetrahedra())


def components(rows):
    """The rows in groups that share a thing, by joining group after group."""
    found = []
    for row in rows:
        near = [group for group in found if group[1] & set(row)]
        found = [group for group in found if group not in near]
        members = [row] + [member for group in near for member in group[0]]
        found.append((members, set(row).union(*[group[1] for group in near])))
    return [members for members, _ in found]


def pair(number):
    number = Fraction(number)
    return (number.numerator, number.denominator)


def levels(mesh, many=5):
    """Some levels: numbers of points, ones between two, just beyond all and far beyond."""
    numbers = sorted(set(mesh.points.values()))
    picked = sorted(set(numbers[::max(1, len(numbers) // many)] + numbers[-1:]))
    found = [numbers[0] - 1, numbers[0] - Fraction(1, 10 ** 6), numbers[-1] + Fraction(1, 999983), numbers[-1] + 1]
    between = [(numbers[numbers.index(low) + 1] + 3 * low) / 4 for low in picked if low != numbers[-1]]
    return sorted(found + picked + between)


def near(mesh):
    """The neighbours of each point."""
    found = {place: set() for place in mesh.points}
    for one, other in mesh.edges():
        found[one].add(other)
    return found


def simplices(mesh):
    """All points, edges, triangles and tetrahedra, as ascending tuples."""
    found = set()
    for row in mesh.all_tetrahedra():
        for bits in range(1, 16):
            found.add(tuple(place for k, place in enumerate(row) if bits >> k & 1))
    return found


def pieces(beside, inside):
    """The sets in which these points hang together by edges."""
    left = set(inside)
    found = []
    while left:
        waiting = [left.pop()]
        group = set(waiting)
        while waiting:
            fresh = beside[waiting.pop()] & left
            left -= fresh
            group |= fresh
            waiting += fresh
        found.append(group)
    return found


def is_on_border(size, place):
    return any(place[k] in (0, 8 * size[k]) for k in range(3))


def euler(parts):
    return sum(1 if len(part) % 2 else -1 for part in parts)


class Kinds:
    """The kinds in a mesh, each from its own frame."""

    def __init__(self, grid):
        self.mesh = Mesh(grid)
        self.near = near(self.mesh)
        self.parts = simplices(self.mesh)

    def kind(self, level):
        return self.of({place for place in self.mesh.points if self.mesh.points[place] >= level})

    def kind_below(self, level):
        return self.of({place for place in self.mesh.points if self.mesh.points[place] < level})

    def of(self, inside):
        many = len(pieces(self.near, inside))
        outside = pieces(self.near, set(self.mesh.points) - inside)
        hollows = sum(not any(is_on_border(self.mesh.size, place) for place in group) for group in outside)
        return (many, many + hollows - euler(part for part in self.parts if inside.issuperset(part)), hollows)

    def order(self):
        return sorted(self.mesh.points, key=lambda place: (self.mesh.points[place], place))

    def around(self, place):
        """The numbers of the parts around a point, by the rows of the mesh that the point makes with others."""
        mark = (self.mesh.points[place], place)
        upper = {other for other in self.near[place] if (self.mesh.points[other], other) > mark}
        link = {part for part in self.parts
                if upper.issuperset(part) and tuple(sorted(part + (place,))) in self.parts}
        edges = {point: set() for point in upper}
        for part in link:
            if len(part) == 2:
                edges[part[0]].add(part[1])
                edges[part[1]].add(part[0])
        return (len(pieces(edges, upper)), euler(link))


def betti(parts):
    """The dimensions of the homology of a set of simplices, over the field of two numbers."""
    rows = [sorted(part for part in parts if len(part) == many) for many in range(1, 6)]
    ranks = [0]
    for low, high in zip(rows, rows[1:]):
        at = {part: k for k, part in enumerate(low)}
        pivots = {}
        for part in high:
            column = sum(1 << at[part[:k] + part[k + 1:]] for k in range(len(part)))
            while column and column.bit_length() in pivots:
                column ^= pivots[column.bit_length()]
            if column:
                pivots[column.bit_length()] = column
        ranks.append(len(pivots))
    return tuple(len(rows[k]) - ranks[k] - ranks[k + 1] for k in range(4))


def greatest_joined(mesh, beside, one, other):
    """The greatest number at which two points lie in one piece, tried one after the other."""
    for number in sorted(set(mesh.points.values()), reverse=True):
        if mesh.points[one] >= number and mesh.points[other] >= number:
            inside = {place for place in mesh.points if mesh.points[place] >= number}
            if any({one, other} <= group for group in pieces(beside, inside)):
                return number


def is_wall(mesh, beside, one, other, number, places):
    """Whether a list of places is a wall."""
    if not places:
        return mesh.points[one] <= number
    inside = set(places)
    if len(inside) != len(places) or not inside <= set(mesh.points) or one not in inside or other in inside:
        return False
    return all(mesh.points[near_by] <= number for place in places for near_by in beside[place] - inside)
