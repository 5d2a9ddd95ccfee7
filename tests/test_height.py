import unittest
from fractions import Fraction
from random import Random

import oracle
import samples
from levelkind.errors import BadValue
from levelkind.meshes import height, points, tetrahedra
from samples import as_lists, as_mixed, grid, is_plain


def pair(number):
    number = Fraction(number)
    return (number.numerator, number.denominator)


def place(*parts):
    return tuple(pair(part) for part in parts)


class Height(unittest.TestCase):

    def test_at_every_point(self):
        for value in samples.small_grids():
            for at, number in points(value):
                self.assertEqual(height(value, place(*at)), number)

    def test_of_the_worked_example(self):
        value = samples.worked()
        self.assertEqual(height(value, place(0, 0, 4)), (4, 1))
        self.assertEqual(height(value, place(2, 2, 2)), (5, 1))
        self.assertEqual(height(value, place(Fraction(4, 3), 0, Fraction(20, 3))), (2, 3))
        self.assertEqual(height(value, place(0, 4, 2)), (3, 1))
        self.assertEqual(height(value, place(Fraction(1, 3), 0, 0)), (23, 3))

    def test_in_the_middle_of_edges_triangles_and_tetrahedra(self):
        for value in (samples.worked(), grid(*samples.TWICE, samples.noise(5, 3)), grid(*samples.DIAGONAL, samples.dull)):
            numbers = {at: Fraction(*number) for at, number in points(value)}
            for _, rows in tetrahedra(value):
                for row in rows[::3]:
                    for some in (row[:2], row[2:], row[::3], row[:3], row[1:], row):
                        expected = sum(numbers[at] for at in some) / len(some)
                        self.assertEqual(height(value, place(*oracle.middle(some))), pair(expected))

    def test_at_unequal_parts_of_a_tetrahedron(self):
        value = grid(*samples.MIXED, samples.noise(11, 10 ** 6))
        numbers = {at: Fraction(*number) for at, number in points(value)}
        for _, rows in tetrahedra(value):
            for row in rows[::5]:
                counts = [Fraction(1, 2), Fraction(1, 3), Fraction(1, 7), Fraction(1, 42)]
                spot = [sum(count * at[k] for count, at in zip(counts, row)) for k in range(3)]
                expected = sum(count * numbers[at] for count, at in zip(counts, row))
                self.assertEqual(height(value, place(*spot)), pair(expected))

    def test_is_the_same_by_every_tetrahedron_that_has_the_place(self):
        source = Random(3)
        for value in samples.small_grids():
            mesh = oracle.Mesh(value)
            size = value[0]
            for _ in range(25):
                bottom = source.choice((1, 1, 2, 3, 4, 6))
                spot = [Fraction(source.randint(0, 8 * part * bottom), bottom) for part in size]
                found = set(mesh.heights(spot))
                self.assertEqual(len(found), 1)
                self.assertEqual(height(value, place(*spot)), pair(found.pop()))

    def test_no_place_is_inside_two_tetrahedra(self):
        source = Random(4)
        mesh = oracle.Mesh(grid(*samples.MIXED, samples.dull))
        for _ in range(12):
            spot = [Fraction(source.randint(1, 15 * 97), 97) for _ in range(3)]
            inside = [row for row in mesh.all_tetrahedra() if min(oracle.weights(row, spot)) > 0]
            self.assertLessEqual(len(inside), 1)
            self.assertEqual(len(inside) == 1, len(mesh.heights(spot)) == 1)

    def test_between_fine_and_coarse_cells(self):
        value = grid(*samples.ONCE, lambda at: 8 if at == (8, 4, 4) else 0)
        self.assertEqual(height(value, place(8, 4, 4)), (8, 1))
        self.assertEqual(height(value, place(8, 4, 2)), (4, 1))
        self.assertEqual(height(value, place(8, 3, 3)), (5, 1))
        self.assertEqual(height(value, place(10, 4, 4)), (4, 1))
        self.assertEqual(height(value, place(12, 4, 4)), (0, 1))
        self.assertEqual(height(value, place(6, 4, 4)), (4, 1))

    def test_on_the_border(self):
        value = grid((2, 1, 1), (), samples.dull)
        numbers = dict(value[2])
        for x in (0, 8, 16):
            for y in (0, 8):
                self.assertEqual(height(value, place(x, y, 0)), (numbers[(x, y, 0)], 1))
        self.assertEqual(height(value, place(16, 8, Fraction(8, 3))),
                         pair(Fraction(2 * numbers[(16, 8, 0)] + numbers[(16, 8, 8)], 3)))

    def test_with_the_greatest_bottoms(self):
        value = grid(*samples.TWICE, samples.noise(5, 10 ** 6))
        spot = (Fraction(7999992, 999983), Fraction(1, 10 ** 6), Fraction(7999999, 10 ** 6))
        found = set(oracle.Mesh(value).heights(spot))
        self.assertEqual(height(value, place(*spot)), pair(found.pop()))
        self.assertEqual(found, set())

    def test_of_a_flat_field(self):
        self.assertEqual(height(samples.flat(-7), place(Fraction(1, 3), 5, Fraction(99, 13))), (-7, 1))
        self.assertEqual(height(samples.flat(0), place(Fraction(1, 3), 5, Fraction(99, 13))), (0, 1))

    def test_lists(self):
        value = grid(*samples.ONCE, samples.dull)
        spot = place(Fraction(1, 3), 5, Fraction(20, 7))
        for given in (as_lists(spot), as_mixed(spot), as_mixed(spot, 1)):
            self.assertEqual(height(as_lists(value), given), height(value, spot))
            self.assertTrue(is_plain(height(value, given)))

    def refuse(self, value, wrong):
        with self.assertRaises(BadValue) as caught:
            height(value, wrong)
        self.assertEqual(caught.exception.at, 1)

    def test_out_of_the_box(self):
        small = Fraction(1, 10 ** 6)
        for value in (samples.worked(), grid((2, 1, 1), (), samples.dull), grid((1, 2, 1), (), samples.dull),
                      grid((1, 1, 2), (), samples.dull)):
            for k in range(3):
                for part in (-small, -1, 8 * value[0][k] + small, 8 * value[0][k] + 1, 10 ** 12, -10 ** 12):
                    spot = [Fraction(4)] * 3
                    spot[k] = Fraction(part)
                    self.refuse(value, place(*spot))
                for part in (0, 8 * value[0][k]):
                    spot = [Fraction(4)] * 3
                    spot[k] = Fraction(part)
                    self.assertTrue(is_plain(height(value, place(*spot))))

    def test_no_place(self):
        value = samples.worked()
        good = ((1, 1), (1, 1), (1, 1))
        for wrong in (None, True, 0, "", "abc", (), good[:2], good + good[:1], (0, 0, 0), [good], (good,), (1, 1)):
            self.refuse(value, wrong)
        for wrong in samples.NO_FRACTIONS:
            for k in range(3):
                self.refuse(value, good[:k] + (wrong,) + good[k + 1:])


if __name__ == "__main__":
    unittest.main()
