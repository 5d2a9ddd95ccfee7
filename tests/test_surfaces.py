import unittest
from fractions import Fraction
from random import Random

import oracle
import samples
from levelkind.errors import BadValue
from levelkind.meshes import height, points
from levelkind.surfaces import drawn, place_of, sheets
from samples import A, B, as_lists, as_mixed, grid, is_plain


def pair(number):
    number = Fraction(number)
    return (number.numerator, number.denominator)


def levels(value):
    """Some levels: numbers of points, ones between two, above and below all."""
    numbers = sorted({Fraction(*number) for _, number in points(value)})
    found = [numbers[0] - 1, numbers[-1] + 1, numbers[0] - Fraction(1, 10 ** 6), numbers[-1] + Fraction(1, 999983)]
    picked = numbers[::max(1, len(numbers) // 5)] + numbers[-1:]
    found += picked
    found += [(numbers[numbers.index(low) + 1] + 3 * low) / 4 for low in picked if low != numbers[-1]]
    return found


def polygons(value, level):
    return [polygon for _, rows in drawn(value, pair(level)) for polygon in rows]


def turns(polygon):
    return list(zip(polygon, polygon[1:] + polygon[:1]))


def middle_of(cut):
    return oracle.middle(cut)


def is_border_side(size, side):
    places = {place for cut in side for place in cut}
    return any(all(place[k] == end for place in places) for k in range(3) for end in (0, 8 * size[k]))


class Drawn(unittest.TestCase):

    def test_of_the_worked_example(self):
        a, b = (0, 0, 0), (8, 8, 8)
        m = (4, 4, 4)
        found = drawn(samples.worked(), (3, 1))
        self.assertEqual(len(found), 1)
        self.assertEqual(found[0][0], A)
        self.assertEqual(found[0][1], (
            ((a, (0, 0, 8)), (a, (0, 4, 4)), (a, m)), ((a, (0, 0, 8)), (a, m), (a, (4, 0, 4))),
            ((a, (0, 4, 4)), (a, (0, 8, 0)), (a, m)), ((a, (0, 8, 0)), (a, (4, 4, 0)), (a, m)),
            ((a, (4, 0, 4)), (a, m), (a, (8, 0, 0))), ((a, (4, 4, 0)), (a, (8, 0, 0)), (a, m)),
            ((b, (0, 8, 8)), (b, m), (b, (4, 8, 4))), ((b, (0, 8, 8)), (b, (4, 4, 8)), (b, m)),
            ((b, m), (b, (4, 4, 8)), (b, (8, 0, 8))), ((b, m), (b, (8, 0, 8)), (b, (8, 4, 4))),
            ((b, m), (b, (8, 4, 4)), (b, (8, 8, 0))), ((b, m), (b, (8, 8, 0)), (b, (4, 8, 4)))))

    def test_three_and_four_cuts(self):
        # The rise along x alone: all middles but that of the least face are above 4, seen from greater x.
        a, b, c, d = (0, 0, 0), (0, 0, 8), (0, 8, 0), (0, 8, 8)
        heart, front, m = (4, 4, 4), (4, 0, 4), (0, 4, 4)
        rows = drawn(grid((1, 1, 1), (), lambda place: place[0]), (4, 1))[0][1]
        self.assertEqual(len(rows), 16)
        self.assertEqual([row for row in rows if any(other == m for _, other in row)],
                         [((heart, a), (heart, m), (heart, b)), ((heart, a), (heart, c), (heart, m)),
                          ((heart, b), (heart, m), (heart, d)), ((heart, m), (heart, c), (heart, d))])
        self.assertEqual([row for row in rows if any(one == front for one, _ in row)],
                         [((front, a), (heart, a), (heart, b), (front, b)), ((front, a), ((8, 0, 0), a), (heart, a)),
                          ((front, b), (heart, b), ((8, 0, 8), b))])
        falling = drawn(grid((1, 1, 1), (), lambda place: -place[0]), (-3, 1))[0][1]
        self.assertIn(((a, front), (b, front), (b, heart), (a, heart)), falling)
        self.assertIn(((a, heart), (b, heart), (m, heart)), falling)

    def test_no_level_is_cut_above_and_below_all(self):
        value = grid(*samples.TWICE, samples.noise(1, 50))
        numbers = [Fraction(*number) for _, number in points(value)]
        self.assertEqual(drawn(value, pair(min(numbers))), ())
        self.assertEqual(drawn(value, pair(min(numbers) - 1)), ())
        self.assertEqual(drawn(value, (-10 ** 12, 1)), ())
        self.assertEqual(drawn(value, (10 ** 12, 10 ** 6 + 1)), ())
        self.assertEqual(drawn(value, pair(max(numbers) + Fraction(1, 10 ** 6))), ())
        self.assertNotEqual(drawn(value, pair(max(numbers))), ())
        self.assertNotEqual(drawn(value, pair(min(numbers) + Fraction(1, 10 ** 6))), ())
        self.assertEqual(drawn(samples.flat(4), (4, 1)), ())

    def test_a_point_at_the_level_is_above(self):
        value = samples.worked()
        self.assertEqual({cut for row in polygons(value, 8) for cut in row},
                         {cut for row in polygons(value, 3) for cut in row})
        self.assertEqual({one for row in polygons(value, 2) for one, _ in row},
                         {place for place, number in points(value) if number >= (2, 1)})

    def test_cells_that_have_polygons_alone(self):
        value = grid((2, 1, 1), (), lambda place: 1 if place == (16, 8, 8) else 0)
        self.assertEqual([cell for cell, _ in drawn(value, (1, 1))], [B])
        value = grid((2, 1, 1), (), lambda place: 1 if place == (8, 8, 8) else 0)
        self.assertEqual([cell for cell, _ in drawn(value, (1, 1))], [A, B])
        value = grid((2, 1, 1), (), lambda place: 1 if place == (0, 0, 8) else 0)
        self.assertEqual([cell for cell, _ in drawn(value, (1, 1))], [A])

    def test_every_cut_tetrahedron_has_its_polygon(self):
        for value in samples.grids():
            mesh = oracle.Mesh(value)
            for level in levels(value)[::2]:
                expected = []
                for cell in mesh.cells:
                    rows = []
                    for row in mesh.tetrahedra[cell]:
                        cuts = {(p, q) for p in row for q in row if mesh.points[p] >= level > mesh.points[q]}
                        if cuts:
                            rows.append(sorted(cuts))
                    if rows:
                        expected.append((cell, sorted(rows)))
                found = [(cell, sorted(sorted(row) for row in rows)) for cell, rows in drawn(value, pair(level))]
                self.assertEqual(found, expected)

    def test_the_sequence_around(self):
        for value in samples.grids():
            for level in levels(value)[::2]:
                for cell, rows in drawn(value, pair(level)):
                    self.assertEqual(list(rows), sorted(rows))
                    for row in rows:
                        self.assertIn(len(row), (3, 4))
                        self.assertEqual(row[0], min(row))
                        self.assertEqual(len(set(row)), len(row))
                        self.check_sense(row)

    def check_sense(self, row):
        """Each turn from a cut to the next and the one behind is counterclockwise, seen from above."""
        middles = [middle_of(cut) for cut in row]
        above = {one for one, _ in row}
        below = {other for _, other in row}
        for k, first in enumerate(middles):
            second, third = middles[(k + 1) % len(row)], middles[(k + 2) % len(row)]
            normal = oracle.cross(oracle.minus(second, first), oracle.minus(third, second))
            for place in above:
                self.assertGreater(oracle.dot(normal, oracle.minus(place, first)), 0)
            for place in below:
                self.assertLess(oracle.dot(normal, oracle.minus(place, first)), 0)

    def test_sides_are_shared_in_the_other_sense(self):
        for value in samples.grids():
            for level in levels(value)[::2]:
                sides = {}
                for row in polygons(value, level):
                    for one, other in turns(row):
                        sides[(one, other)] = sides.get((one, other), 0) + 1
                self.assertTrue(all(many == 1 for many in sides.values()))
                for one, other in sides:
                    self.assertEqual((other, one) not in sides, is_border_side(value[0], (one, other)))

    def test_every_edge_between_above_and_below_is_a_cut(self):
        for value in samples.grids()[::3]:
            mesh = oracle.Mesh(value)
            for level in levels(value):
                expected = {(p, q) for p, q in mesh.edges() if mesh.points[p] >= level > mesh.points[q]}
                self.assertEqual({cut for row in polygons(value, level) for cut in row}, expected)

    def test_order_alone_counts(self):
        for size, halved in (samples.BARE, samples.ONCE, samples.MIXED):
            one = grid(size, halved, samples.noise(8, 4))
            other = (size, halved, tuple((place, 5 * number - 1) for place, number in one[2]))
            for (_, low), (_, high) in zip(points(one)[::9], points(other)[::9]):
                self.assertEqual(drawn(one, low), drawn(other, high))
                self.assertEqual(sheets(one, low), sheets(other, high))

    def test_lists(self):
        value = grid(*samples.ONCE, samples.dull)
        for given in (as_lists(value), as_mixed(value), as_mixed(value, 1)):
            self.assertEqual(drawn(given, [7, 3]), drawn(value, (7, 3)))
            self.assertTrue(is_plain(drawn(given, [7, 3])))

    def test_levels_with_great_tops_and_bottoms(self):
        value = grid(*samples.ONCE, samples.noise(3, 10 ** 6))
        self.assertEqual(drawn(value, (999982999983, 10 ** 6)), drawn(value, (10 ** 12 - 1, 10 ** 6)))
        far = height(value, ((123457, 999983), (7, 999979), (22, 99991)))
        self.assertGreater(far[1], 10 ** 12)
        self.assertEqual(drawn(value, far), drawn(value, pair(Fraction(*far).limit_denominator(10 ** 6))))


class PlaceOf(unittest.TestCase):

    def test_of_the_worked_example(self):
        value = samples.worked()
        self.assertEqual(place_of(value, (3, 1), ((0, 0, 0), (0, 0, 8))), ((0, 1), (0, 1), (5, 1)))
        self.assertEqual(place_of(value, (3, 1), ((0, 0, 0), (4, 4, 4))), ((10, 3), (10, 3), (10, 3)))
        self.assertEqual(place_of(value, (3, 1), ((8, 8, 8), (4, 8, 4))), ((14, 3), (8, 1), (14, 3)))
        self.assertEqual(place_of(value, (8, 1), ((8, 8, 8), (4, 8, 4))), ((8, 1), (8, 1), (8, 1)))
        self.assertEqual(place_of(value, (1, 3), ((4, 4, 4), (8, 0, 0))), ((22, 3), (2, 3), (2, 3)))

    def test_the_field_there_is_the_level(self):
        for value in (samples.worked(), grid(*samples.TWICE, samples.noise(5, 3)),
                      grid(*samples.DIAGONAL, samples.noise(2, 10 ** 6))):
            for level in levels(value)[4::3]:
                cuts = sorted({cut for row in polygons(value, level) for cut in row})
                for one, other in cuts[::5]:
                    place = place_of(value, pair(level), (one, other))
                    self.assertTrue(is_plain(place))
                    self.assertEqual(height(value, place), pair(level))
                    where = [Fraction(*part) for part in place]
                    self.assertEqual(oracle.cross(oracle.minus(where, one), oracle.minus(other, one)), (0, 0, 0))
                    for k in range(3):
                        self.assertTrue(min(one[k], other[k]) <= where[k] <= max(one[k], other[k]))
                    self.assertNotEqual(tuple(where), other)

    def test_lists(self):
        value = samples.worked()
        cut = ((0, 0, 0), (4, 4, 4))
        for given in (as_lists(cut), as_mixed(cut), as_mixed(cut, 1)):
            self.assertEqual(place_of(as_lists(value), [3, 1], given), place_of(value, (3, 1), cut))

    def refuse(self, value, level, cut):
        with self.assertRaises(BadValue) as caught:
            place_of(value, level, cut)
        self.assertEqual(caught.exception.at, 2)

    def test_all_cuts_and_nothing_else(self):
        value = grid((1, 1, 1), (), samples.noise(4, 3))
        mesh = oracle.Mesh(value)
        for level in levels(value):
            cuts = {cut for row in polygons(value, level) for cut in row}
            for one in mesh.points:
                for other in mesh.points:
                    if (one, other) in cuts:
                        self.assertEqual(len(place_of(value, pair(level), (one, other))), 3)
                    else:
                        self.refuse(value, pair(level), (one, other))

    def test_no_cuts(self):
        value = samples.worked()
        good = ((0, 0, 0), (4, 4, 4))
        self.refuse(value, (3, 1), (good[1], good[0]))
        self.refuse(value, (3, 1), (good[0], good[0]))
        self.refuse(value, (3, 1), ((0, 0, 0), (8, 4, 4)))
        self.refuse(value, (3, 1), ((0, 0, 0), (8, 8, 0)))
        self.refuse(value, (3, 1), ((0, 0, 0), (1, 1, 1)))
        self.refuse(value, (3, 1), ((1, 1, 1), (4, 4, 4)))
        self.refuse(value, (3, 1), ((0, 0, 0), (-4, 4, 4)))
        self.refuse(value, (9, 1), good)
        self.refuse(value, (2, 1), good)
        self.refuse(value, (-1, 1), good)
        self.refuse(value, (2, 1), ((4, 4, 4), (0, 4, 4)))

    def test_points_of_two_cells(self):
        value = grid((2, 1, 1), (), lambda place: place[0])
        self.assertEqual(place_of(value, (10, 1), ((12, 4, 4), (8, 4, 4))), ((10, 1), (4, 1), (4, 1)))
        self.refuse(value, (8, 1), ((12, 4, 4), (4, 4, 4)))

    def test_no_pairs_of_places(self):
        value = samples.worked()
        good = ((0, 0, 0), (4, 4, 4))
        for wrong in (None, True, 0, "", "ab", (), good[:1], good + good[:1], good[0], (good, good), [good],
                      (None, good[1]), (good[0], None), ((0, 0), good[1]), (good[0], (4, 4)), (0, 4), ("000", "444"),
                      ((False, 0, 0), good[1]), (good[0], (4, 4, "4")), (good[0], (4, 4, 4, 4)), ([[0], 0, 0], good[1]),
                      (good[0], [[4, 4, 4]])):
            self.refuse(value, (3, 1), wrong)

    def test_what_place_of_returns_may_be_a_level_and_a_place(self):
        value = grid(*samples.TWICE, samples.noise(5, 10 ** 6))
        level = (1, 999983)
        cut = drawn(value, level)[0][1][0][0]
        place = place_of(value, level, cut)
        self.assertEqual(height(value, place), level)
        for part in place:
            self.assertTrue(is_plain(drawn(value, part)))


class Sheets(unittest.TestCase):

    def test_of_the_worked_example(self):
        value = samples.worked()
        self.assertEqual(sheets(value, (3, 1)), ((1, 1), (1, 1)))
        self.assertEqual(sheets(value, (2, 1)), ((0, 2),))
        self.assertEqual(sheets(value, (1, 2)), ((0, 2),))
        self.assertEqual(sheets(value, (0, 1)), ())
        self.assertEqual(sheets(value, (9, 1)), ())

    def test_a_ball_has_no_rim(self):
        value = grid((1, 1, 1), (A,), lambda place: 1 if place == (4, 4, 4) else 0)
        self.assertEqual(sheets(value, (1, 1)), ((2, 0),))
        value = grid((1, 1, 1), (A,), lambda place: 0 if place == (4, 4, 4) else 1)
        self.assertEqual(sheets(value, (1, 1)), ((2, 0),))

    def test_a_plane_has_one_rim(self):
        for axis in range(3):
            value = grid((2, 2, 2), (), lambda place: place[axis])
            for level in ((1, 1), (8, 1), (9, 1), (16, 1)):
                self.assertEqual(sheets(value, level), ((1, 1),))

    def test_a_tube_has_two_rims(self):
        value = grid(*samples.SIX_ROOTS, lambda place: 1 if place[1:] == (4, 4) else 0)
        self.assertEqual(sheets(value, (1, 1)), ((0, 2),))

    def test_several_at_once(self):
        ends = {(0, 0, 0): 9, (4, 4, 4): 9, (12, 4, 4): 9, (16, 16, 16): 9}
        value = grid((2, 2, 2), ((0, 0, 0, 8), (8, 0, 0, 8)), lambda place: ends.get(place, 0))
        self.assertEqual(sheets(value, (9, 1)), ((1, 1), (1, 1), (2, 0), (2, 0)))

    def test_a_handle(self):
        # A ring of corners around the middle line of the box: a torus of many polygons.
        ring = {(x, y, 4) for x in (4, 8, 12) for y in (4, 8, 12)} - {(8, 8, 4)}
        halved = ((0, 0, 0, 8), (0, 8, 0, 8), (8, 0, 0, 8), (8, 8, 0, 8))
        value = grid((2, 2, 1), halved, lambda place: 9 if place in ring else 0)
        self.assertEqual(sheets(value, (9, 1)), ((0, 0),))

    def test_against_counting(self):
        for value in samples.grids():
            for level in levels(value)[::3]:
                self.assertEqual(sheets(value, pair(level)), self.counted(value, level))

    def counted(self, value, level):
        rows = polygons(value, level)
        found = []
        for group in oracle.components([tuple(frozenset(side) for side in turns(row)) for row in rows]):
            sides = {side for members in group for side in members}
            cuts = {cut for side in sides for cut in side}
            border = [tuple(side) for side in sides if is_border_side(value[0], side)]
            found.append((len(cuts) - len(sides) + len(group), len(oracle.components(border))))
        return tuple(sorted(found))

    def test_euler_numbers_of_both_sides(self):
        for value in samples.grids():
            mesh = oracle.Mesh(value)
            cells = self.simplices(mesh)
            for level in levels(value)[::3]:
                euler = sum(pair_[0] for pair_ in sheets(value, pair(level)))
                above = self.euler(cells, {place for place in mesh.points if mesh.points[place] >= level})
                below = self.euler(cells, {place for place in mesh.points if mesh.points[place] < level})
                self.assertEqual(euler, above + below - 1)

    def simplices(self, mesh):
        found = set()
        for row in mesh.all_tetrahedra():
            for bits in range(1, 16):
                found.add(tuple(place for k, place in enumerate(row) if bits >> k & 1))
        return found

    def euler(self, cells, places):
        return sum(-1 if len(row) % 2 == 0 else 1 for row in cells if places.issuperset(row))

    def test_lists(self):
        value = grid(*samples.MIXED, samples.noise(9, 5))
        self.assertEqual(sheets(as_lists(value), [1, 4]), sheets(value, (1, 4)))
        self.assertTrue(is_plain(sheets(as_mixed(value), [1, 4])))


class Levels(unittest.TestCase):

    def test_no_level(self):
        for value in (samples.worked(), samples.flat()):
            for wrong in samples.NO_FRACTIONS:
                for function in (drawn, sheets):
                    with self.assertRaises(BadValue) as caught:
                        function(value, wrong)
                    self.assertEqual(caught.exception.at, 1)
                with self.assertRaises(BadValue) as caught:
                    place_of(value, wrong, ((0, 0, 0), (4, 4, 4)))
                self.assertEqual(caught.exception.at, 1)

    def test_levels_at_the_bounds(self):
        source = Random(1)
        value = grid(*samples.ONCE, samples.noise(9, 10 ** 6))
        mesh = oracle.Mesh(value)
        for _ in range(10):
            bottom = source.randint(1, 10 ** 6)
            level = Fraction(source.randint(-bottom * 10 ** 6, bottom * 10 ** 6), bottom)
            cuts = {(p, q) for p, q in mesh.edges() if mesh.points[p] >= level > mesh.points[q]}
            self.assertEqual({cut for row in polygons(value, level) for cut in row}, cuts)
        for level in ((10 ** 12, 1), (-10 ** 12, 1), (1 - 10 ** 12, 10 ** 6), (10 ** 12 - 1, 10 ** 6)):
            self.assertEqual(drawn(value, level), ())
            self.assertEqual(sheets(value, level), ())


if __name__ == "__main__":
    unittest.main()
