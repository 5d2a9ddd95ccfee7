import unittest
from collections import Counter

import oracle
import samples
from levelkind.errors import NoCell, NoPoint
from levelkind.grids import cells
from levelkind.meshes import neighbours, points, squares, tetrahedra
from samples import A, B, as_lists, as_mixed, grid, is_plain


def zero(place):
    return 0


def is_on_border(size, places):
    """Whether places lie together on one of the box's six sides."""
    return any(all(place[k] == end for place in places) for k in range(3) for end in (0, 8 * size[k]))


class Squares(unittest.TestCase):

    def test_six_faces(self):
        self.assertEqual(squares(samples.worked(), A),
                         (((0, 0, 0), 0, 8), ((0, 0, 0), 1, 8), ((0, 0, 0), 2, 8), ((0, 0, 8), 2, 8),
                          ((0, 8, 0), 1, 8), ((8, 0, 0), 0, 8)))

    def test_faces_of_a_half(self):
        value = grid((1, 1, 1), (A,), zero)
        self.assertEqual(squares(value, (4, 0, 4, 4)),
                         (((4, 0, 4), 0, 4), ((4, 0, 4), 1, 4), ((4, 0, 4), 2, 4), ((4, 0, 8), 2, 4),
                          ((4, 4, 4), 1, 4), ((8, 0, 4), 0, 4)))

    def test_a_face_replaced_by_quarters(self):
        self.assertEqual(squares(grid(*samples.ONCE, zero), B),
                         (((8, 0, 0), 0, 4), ((8, 0, 0), 1, 8), ((8, 0, 0), 2, 8), ((8, 0, 4), 0, 4), ((8, 0, 8), 2, 8),
                          ((8, 4, 0), 0, 4), ((8, 4, 4), 0, 4), ((8, 8, 0), 1, 8), ((16, 0, 0), 0, 8)))

    def test_quarters_replaced_again(self):
        self.assertEqual(squares(grid(*samples.TWICE, zero), B),
                         (((8, 0, 0), 0, 2), ((8, 0, 0), 1, 8), ((8, 0, 0), 2, 8), ((8, 0, 2), 0, 2), ((8, 0, 4), 0, 4),
                          ((8, 0, 8), 2, 8), ((8, 2, 0), 0, 2), ((8, 2, 2), 0, 2), ((8, 4, 0), 0, 4), ((8, 4, 4), 0, 4),
                          ((8, 8, 0), 1, 8), ((16, 0, 0), 0, 8)))

    def test_a_half_beside_a_halved_half(self):
        found = squares(grid(*samples.TWICE, zero), (0, 0, 0, 4))
        self.assertEqual([square for square in found if square[2] == 2],
                         [((4, 0, 0), 0, 2), ((4, 0, 2), 0, 2), ((4, 2, 0), 0, 2), ((4, 2, 2), 0, 2)])
        self.assertEqual(len(found), 9)

    def test_a_corner_on_an_edge_replaces_nothing(self):
        # The cell across the edge is halved, those across the faces are not.
        self.assertEqual([side for _, _, side in squares(grid(*samples.DIAGONAL, zero), (8, 8, 0, 8))], [8] * 6)

    def test_every_cell_of_every_shape(self):
        for size, halved in samples.SHAPES:
            value = grid(size, halved, zero)
            mesh = oracle.Mesh(value)
            for cell in mesh.cells:
                self.assertEqual(squares(value, cell), tuple(mesh.squares[cell]))

    def test_squares_cover_the_faces(self):
        for size, halved in samples.SHAPES:
            value = grid(size, halved, zero)
            for cell in cells(value):
                self.assertEqual(sum(side * side for _, _, side in squares(value, cell)), 6 * cell[3] ** 2)

    def test_cells_as_lists(self):
        value = grid(*samples.TWICE, zero)
        for cell in cells(value):
            self.assertEqual(squares(as_lists(value), list(cell)), squares(value, cell))

    def test_no_cell(self):
        value = grid(*samples.ONCE, zero)
        for wrong in (A, (0, 0, 0, 2), (0, 0, 0, 3), (16, 0, 0, 8), (8, 0, 0, 4), (8, 0, 0), (8, 0, 0, 8, 8), (), [],
                      None, True, 0, "8008", [[8], 0, 0, 8], (8, 0, 0, "8"), (8, False, 0, 8), [8, 0, None, 8],
                      ((8, 0, 0, 8),), (8, 0, 0, 10 ** 30)):
            with self.assertRaises(NoCell) as caught:
                squares(value, wrong)
            self.assertIs(caught.exception.cell, wrong)

    def test_bools_are_no_integers(self):
        with self.assertRaises(NoCell):
            squares(samples.worked(), (False, 0, 0, 8))


class Points(unittest.TestCase):

    def test_of_the_worked_example(self):
        self.assertEqual(points(samples.worked()),
                         (((0, 0, 0), (8, 1)), ((0, 0, 8), (0, 1)), ((0, 4, 4), (2, 1)), ((0, 8, 0), (0, 1)),
                          ((0, 8, 8), (0, 1)), ((4, 0, 4), (2, 1)), ((4, 4, 0), (2, 1)), ((4, 4, 4), (2, 1)),
                          ((4, 4, 8), (2, 1)), ((4, 8, 4), (2, 1)), ((8, 0, 0), (0, 1)), ((8, 0, 8), (0, 1)),
                          ((8, 4, 4), (2, 1)), ((8, 8, 0), (0, 1)), ((8, 8, 8), (8, 1))))

    def test_means_are_fractions(self):
        value = grid((1, 1, 1), (), lambda place: {(0, 0, 0): -1, (8, 8, 8): 4}.get(place, 0))
        found = dict(points(value))
        self.assertEqual(found[(4, 4, 4)], (3, 8))
        self.assertEqual(found[(0, 4, 4)], (-1, 4))
        self.assertEqual(found[(8, 4, 4)], (1, 1))
        self.assertEqual(found[(0, 0, 0)], (-1, 1))
        self.assertEqual(found[(0, 0, 8)], (0, 1))

    def test_means_at_the_bounds(self):
        self.assertEqual({number for _, number in points(samples.flat(10 ** 6))}, {(10 ** 6, 1)})
        self.assertEqual({number for _, number in points(samples.flat(-10 ** 6))}, {(-10 ** 6, 1)})

    def test_a_coarse_cell_takes_its_own_corners(self):
        # The middle of a coarse cell has the mean of its eight corners, whatever stands between them.
        value = grid(*samples.ONCE, lambda place: 8 if place in ((8, 4, 4), (8, 0, 4)) else 0)
        found = dict(points(value))
        self.assertEqual(found[(12, 4, 4)], (0, 1))
        self.assertEqual(found[(12, 0, 4)], (0, 1))
        self.assertEqual(found[(8, 2, 2)], (4, 1))
        self.assertEqual(found[(8, 4, 4)], (8, 1))
        self.assertEqual(found[(6, 2, 2)], (2, 1))

    def test_of_every_grid(self):
        for value in samples.grids():
            mesh = oracle.Mesh(value)
            expected = [(place, (mesh.points[place].numerator, mesh.points[place].denominator))
                        for place in sorted(mesh.points)]
            self.assertEqual(points(value), tuple(expected))

    def test_counts(self):
        # Corners, squares, cells.
        self.assertEqual(len(points(grid((2, 2, 2), (), zero))), 27 + 36 + 8)
        self.assertEqual(len(points(grid((1, 1, 1), (A,), zero))), 27 + 36 + 8)
        self.assertEqual(len(points(grid(*samples.ONCE, zero))), 31 + 41 + 9)


class Tetrahedra(unittest.TestCase):

    def test_of_one_cell(self):
        found = tetrahedra(samples.worked())
        self.assertEqual(len(found), 1)
        self.assertEqual(found[0][0], A)
        rows = found[0][1]
        self.assertEqual(len(rows), 24)
        self.assertEqual(rows[0], ((0, 0, 0), (0, 0, 8), (0, 4, 4), (4, 4, 4)))
        self.assertEqual(rows[-1], ((4, 4, 4), (8, 4, 4), (8, 8, 0), (8, 8, 8)))

    def test_a_rim_with_a_corner_in_the_middle_of_a_side(self):
        found = dict(tetrahedra(grid(*samples.ONCE, zero)))
        bottom = [row for row in found[B] if (12, 4, 0) in row]
        self.assertEqual(bottom, [((8, 0, 0), (8, 4, 0), (12, 4, 0), (12, 4, 4)),
                                  ((8, 0, 0), (12, 4, 0), (12, 4, 4), (16, 0, 0)),
                                  ((8, 4, 0), (8, 8, 0), (12, 4, 0), (12, 4, 4)),
                                  ((8, 8, 0), (12, 4, 0), (12, 4, 4), (16, 8, 0)),
                                  ((12, 4, 0), (12, 4, 4), (16, 0, 0), (16, 8, 0))])
        self.assertEqual(len(found[B]), 4 * 4 + 4 * 5 + 4)
        self.assertEqual({len(rows) for cell, rows in found.items() if cell != B}, {24})

    def test_a_rim_with_corners_at_all_quarters_of_a_side(self):
        found = dict(tetrahedra(grid(*samples.TWICE, zero)))
        bottom = [row for row in found[B] if (12, 4, 0) in row]
        self.assertEqual({place for row in bottom for place in row if place[0] == 8},
                         {(8, 0, 0), (8, 2, 0), (8, 4, 0), (8, 8, 0)})
        self.assertEqual(len(bottom), 6)
        both = dict(tetrahedra(grid((2, 1, 1), (A, (4, 0, 0, 4), (4, 4, 0, 4)), zero)))
        bottom = [row for row in both[B] if (12, 4, 0) in row]
        self.assertEqual(len(bottom), 7)

    def test_a_rim_at_a_fine_edge_alone(self):
        found = dict(tetrahedra(grid(*samples.DIAGONAL, zero)))
        self.assertEqual(len(found[(8, 8, 0, 8)]), 26)
        self.assertIn(((8, 8, 0), (8, 8, 4), (8, 12, 4), (12, 12, 4)), found[(8, 8, 0, 8)])
        self.assertNotIn(((8, 8, 0), (8, 8, 8), (8, 12, 4), (12, 12, 4)), found[(8, 8, 0, 8)])

    def test_of_every_shape(self):
        for size, halved in samples.SHAPES:
            value = grid(size, halved, zero)
            mesh = oracle.Mesh(value)
            self.assertEqual(tetrahedra(value), tuple((cell, tuple(mesh.tetrahedra[cell])) for cell in mesh.cells))
            self.assertEqual(tetrahedra(as_mixed(value)), tetrahedra(value))

    def test_they_fill_each_cell(self):
        for size, halved in samples.SHAPES:
            for cell, rows in tetrahedra(grid(size, halved, zero)):
                volumes = [abs(oracle.volume(*row)) for row in rows]
                self.assertGreater(min(volumes), 0)
                self.assertEqual(sum(volumes), cell[3] ** 3)

    def test_they_meet_in_whole_triangles(self):
        for size, halved in samples.SHAPES:
            rows = [row for _, found in tetrahedra(grid(size, halved, zero)) for row in found]
            self.assertEqual(len(set(rows)), len(rows))
            beside = {}
            for row in rows:
                for k in range(4):
                    beside.setdefault(row[:k] + row[k + 1:], []).append(row[k])
            for triangle, tips in beside.items():
                self.assertEqual(len(tips), 1 if is_on_border(size, triangle) else 2)
                if len(tips) == 2:
                    one, other = [oracle.volume(*triangle, tip) for tip in tips]
                    self.assertLess(one * other, 0)

    def test_their_points_are_the_points(self):
        for size, halved in samples.SHAPES:
            value = grid(size, halved, zero)
            found = {place for _, rows in tetrahedra(value) for row in rows for place in row}
            self.assertEqual(found, {place for place, _ in points(value)})

    def test_the_bounds_that_are_told(self):
        for size, halved in samples.SHAPES:
            value = grid(size, halved, zero)
            self.assertLess(len(points(value)), 420)
            self.assertLess(sum(len(rows) for _, rows in tetrahedra(value)), 2000)

    def test_numbers_do_not_matter(self):
        self.assertEqual(tetrahedra(grid(*samples.MIXED, zero)), tetrahedra(grid(*samples.MIXED, samples.dull)))


class Neighbours(unittest.TestCase):

    def test_of_the_worked_example(self):
        value = samples.worked()
        self.assertEqual(neighbours(value, (0, 0, 0)), ((0, 0, 8), (0, 4, 4), (0, 8, 0), (4, 0, 4), (4, 4, 0),
                                                        (4, 4, 4), (8, 0, 0)))
        self.assertEqual(neighbours(value, (0, 4, 4)), ((0, 0, 0), (0, 0, 8), (0, 8, 0), (0, 8, 8), (4, 4, 4)))
        self.assertEqual(len(neighbours(value, (4, 4, 4))), 14)

    def test_of_the_middle_of_a_square_between_cells(self):
        value = grid((2, 1, 1), (), zero)
        self.assertEqual(neighbours(value, (8, 4, 4)), ((4, 4, 4), (8, 0, 0), (8, 0, 8), (8, 8, 0), (8, 8, 8),
                                                        (12, 4, 4)))

    def test_of_a_corner_in_the_middle_of_a_coarse_edge(self):
        value = grid(*samples.DIAGONAL, zero)
        found = neighbours(value, (8, 8, 4))
        self.assertEqual([place for place in found if place >= (8, 8, 0)],
                         [(8, 8, 0), (8, 8, 8), (8, 12, 4), (12, 4, 4), (12, 8, 4), (12, 12, 4)])
        self.assertNotIn((8, 8, 8), neighbours(value, (8, 8, 0)))

    def test_of_every_point_of_every_shape(self):
        for size, halved in samples.SHAPES:
            value = grid(size, halved, zero)
            mesh = oracle.Mesh(value)
            edges = {}
            for one, other in mesh.edges():
                edges.setdefault(one, []).append(other)
            for place in mesh.points:
                self.assertEqual(neighbours(value, place), tuple(sorted(edges[place])))

    def test_places_as_lists(self):
        value = samples.worked()
        self.assertEqual(neighbours(as_lists(value), [0, 4, 4]), neighbours(value, (0, 4, 4)))

    def test_no_point(self):
        value = grid(*samples.ONCE, zero)
        for wrong in ((1, 0, 0), (12, 4, 2), (20, 4, 4), (-4, 4, 4), (0, 0), (0, 0, 0, 0), (), [], None, True, 0, "000",
                      "", (False, 0, 0), [0, 0, False], ((0, 0, 0),), [[0], 0, 0], (0, None, 0), (0, 0, "0"),
                      (10 ** 30, 0, 0), (12, 0, 0), (8, 4, 4, 0)):
            with self.assertRaises(NoPoint) as caught:
                neighbours(value, wrong)
            self.assertIs(caught.exception.place, wrong)

    def test_a_middle_that_is_replaced_by_a_corner_is_a_point(self):
        for size, halved in (samples.ONCE, ((2, 1, 1), ())):
            self.assertIn((12, 4, 4), neighbours(grid(size, halved, zero), (8, 4, 4)))

    def test_the_middle_of_a_halved_cell(self):
        self.assertEqual(len(neighbours(grid((1, 1, 1), (A,), zero), (4, 4, 4))), 6 + 12 + 8)


class All(unittest.TestCase):

    def test_plain_tuples(self):
        for value in samples.small_grids():
            for given in (value, as_lists(value), as_mixed(value)):
                found = (points(given), tetrahedra(given), squares(given, list(cells(given)[0])),
                         neighbours(given, [0, 0, 0]))
                self.assertTrue(is_plain(found))

    def test_each_corner_of_a_rim_comes_twice(self):
        for size, halved in samples.SHAPES:
            value = grid(size, halved, zero)
            numbers = dict(value[2])
            for cell, rows in tetrahedra(value):
                for square in squares(value, cell):
                    middle = tuple(int(part) for part in oracle.middle(oracle.square_corners(square)))
                    counts = Counter(place for row in rows if middle in row for place in row if place in numbers)
                    self.assertEqual(set(counts.values()), {2})


if __name__ == "__main__":
    unittest.main()
