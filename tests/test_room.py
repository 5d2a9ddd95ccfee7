import unittest
from fractions import Fraction

import oracle
import samples
from levelkind.errors import BadValue
from levelkind.meshes import height, points
from levelkind.surfaces import room
from samples import A, as_lists, as_mixed, grid, is_plain


def pair(number):
    number = Fraction(number)
    return (number.numerator, number.denominator)


def spread(mesh_grid):
    """Whether no two points of a tetrahedron have the same number, as the oracle asks for."""
    mesh = oracle.Mesh(mesh_grid)
    return all(len({mesh.points[place] for place in row}) == 4 for row in mesh.all_tetrahedra())


class Room(unittest.TestCase):

    def test_of_the_worked_example(self):
        value = samples.worked()
        self.assertEqual(room(value, (8, 1)), (0, 1))
        self.assertEqual(room(value, (0, 1)), (512, 1))
        # Of each of twelve tetrahedra of 64 / 3 the part above 5 is 3 / 8 by 3 / 6 by 3 / 6.
        self.assertEqual(room(value, (5, 1)), (24, 1))
        self.assertEqual(room(value, (3, 1)), (1000, 9))

    def test_at_and_below_the_least_number(self):
        for value in samples.grids():
            least = min(Fraction(*number) for _, number in points(value))
            a, b, c = value[0]
            box = (512 * a * b * c, 1)
            for level in (least, least - Fraction(1, 10 ** 6), least - 1, Fraction(-10 ** 12)):
                self.assertEqual(room(value, pair(level)), box)

    def test_above_the_greatest_number(self):
        for value in samples.grids():
            greatest = max(Fraction(*number) for _, number in points(value))
            for level in (greatest + Fraction(1, 10 ** 6), greatest + 1, Fraction(10 ** 12)):
                self.assertEqual(room(value, pair(level)), (0, 1))

    def test_just_over_the_least_number_it_is_less(self):
        for value in samples.grids():
            numbers = {Fraction(*number) for _, number in points(value)}
            if len(numbers) > 1:
                a, b, c = value[0]
                found = Fraction(*room(value, pair(min(numbers) + Fraction(1, 10 ** 6))))
                self.assertLess(found, 512 * a * b * c)
                self.assertGreater(found, 0)

    def test_it_falls_with_the_level(self):
        for value in samples.small_grids():
            numbers = sorted({Fraction(*number) for _, number in points(value)})
            between = [(low + 2 * high) / 3 for low, high in zip(numbers, numbers[1:])]
            found = [Fraction(*room(value, pair(level))) for level in sorted(numbers + between)]
            self.assertEqual(found, sorted(set(found), reverse=True))

    def test_a_plane(self):
        for axis, size in ((0, (1, 2, 1)), (1, (2, 2, 2)), (2, (1, 1, 2))):
            value = grid(size, (), lambda place: place[axis])
            face = 64 * size[0] * size[1] * size[2] // size[axis]
            for level in (Fraction(1), Fraction(4), Fraction(11, 3), Fraction(15, 2), Fraction(8)):
                self.assertEqual(room(value, pair(level)), pair(face * (8 * size[axis] - level)))

    def test_a_plane_through_cells_of_all_sides(self):
        # Any plane is kept by the means, so that the room is that beside it.
        for size, halved in samples.SHAPES:
            value = grid(size, halved, lambda place: -place[1])
            face = 64 * size[0] * size[2]
            for level in (Fraction(-3), Fraction(-9, 7), Fraction(-1, 10 ** 6), Fraction(-5)):
                self.assertEqual(room(value, pair(level)), pair(-level * face))

    def test_a_slant_plane(self):
        value = grid(*samples.ONE_AND_FIVE, lambda place: 2 * place[0] + 3 * place[1] + 5 * place[2])
        # Below a level that meets no far side, a corner of the box is cut off.
        for level in (Fraction(16), Fraction(1, 3), Fraction(61, 7)):
            self.assertEqual(room(value, pair(level)), pair(512 - level ** 3 / (6 * 2 * 3 * 5)))

    def test_against_cones(self):
        compared = 0
        for seed, (size, halved) in enumerate(samples.SHAPES):
            value = grid(size, halved, samples.noise(300 + seed, 10 ** 6))
            self.assertTrue(spread(value))
            mesh = oracle.Mesh(value)
            numbers = sorted(mesh.points.values())
            for level in (numbers[len(numbers) // 3], (numbers[-2] + numbers[-1]) / 2, Fraction(1, 999983)):
                self.assertEqual(room(value, pair(level)), pair(oracle.room(mesh, level)))
                compared += 1
        self.assertEqual(compared, 3 * len(samples.SHAPES))

    def test_with_all_numbers_negated_it_is_what_is_missing(self):
        for value in samples.grids():
            size, halved, numbers = value
            a, b, c = size
            other = (size, halved, tuple((place, -number) for place, number in numbers))
            known = {Fraction(*number) for _, number in points(value)}
            for level in (Fraction(1, 3), Fraction(-7, 3), Fraction(99999, 7)):
                self.assertNotIn(level, known)
                both = Fraction(*room(value, pair(level))) + Fraction(*room(other, pair(-level)))
                self.assertEqual(both, 512 * a * b * c)

    def test_a_tetrahedron_with_equal_numbers_at_the_level(self):
        self.assertEqual(room(samples.flat(3), (3, 1)), (512, 1))
        self.assertEqual(room(samples.flat(3), (3000001, 10 ** 6)), (0, 1))
        # One corner is less, so that the least number is its alone; the others are at the level.
        value = grid((1, 1, 1), (), lambda place: 0 if place == (0, 0, 0) else 8)
        numbers = {number for _, number in points(value)}
        self.assertEqual(numbers, {(0, 1), (6, 1), (7, 1), (8, 1)})
        part = 6 * Fraction(64, 3) * Fraction(6, 8) * Fraction(6, 6) * Fraction(6, 7)
        self.assertEqual(room(value, (6, 1)), pair(512 - part))

    def test_levels_that_height_returns(self):
        value = grid(*samples.TWICE, samples.noise(304, 10 ** 6))
        level = height(value, ((123457, 999983), (7, 999979), (22, 99991)))
        self.assertGreater(level[1], 10 ** 12)
        self.assertEqual(room(value, level), pair(oracle.room(oracle.Mesh(value), Fraction(*level))))

    def test_lists(self):
        value = grid((2, 1, 1), (A,), samples.dull)
        for given in (as_lists(value), as_mixed(value), as_mixed(value, 1)):
            self.assertEqual(room(given, [7, 3]), room(value, (7, 3)))
            self.assertTrue(is_plain(room(given, [7, 3])))

    def test_no_level(self):
        for value in (samples.worked(), samples.flat()):
            for wrong in samples.NO_FRACTIONS:
                with self.assertRaises(BadValue) as caught:
                    room(value, wrong)
                self.assertEqual(caught.exception.at, 1)


if __name__ == "__main__":
    unittest.main()
