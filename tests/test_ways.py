import unittest
from fractions import Fraction
from random import Random

import oracle
import samples
from levelkind.errors import BadValue, NoPoint
from levelkind.kinds import kind
from levelkind.meshes import points
from levelkind.ways import joined, wall, wall_holds
from oracle import pair
from samples import A, as_lists, as_mixed, grid, is_plain

TINY = Fraction(1, 10 ** 6)
NO_POINTS = ((1, 0, 0), (12, 4, 2), (20, 4, 4), (-4, 4, 4), (0, 0), (0, 0, 0, 0), (), [], None, True, 0, "000", "",
             (False, 0, 0), [8, 8, True], ((0, 0, 0),), [[0], 0, 0], (0, None, 0), (0, 0, "0"), (10 ** 30, 0, 0))


class Ground:
    """A grid with its mesh and its neighbours, worked out without the package."""

    def __init__(self, value):
        self.value = value
        self.mesh = oracle.Mesh(value)
        self.near = oracle.near(self.mesh)
        self.places = sorted(self.mesh.points)

    def greatest(self, one, other):
        return oracle.greatest_joined(self.mesh, self.near, one, other)

    def is_wall(self, one, other, number, places):
        return oracle.is_wall(self.mesh, self.near, one, other, number, places)

    def pairs(self, many, seed=1):
        source = Random(seed)
        return [source.sample(self.places, 2) for _ in range(many)]

    def next_below(self, number):
        """The greatest number of a point below this one, or one that is less still."""
        lesser = [other for other in self.mesh.points.values() if other < number]
        return max(lesser) if lesser else number - 1


def grounds():
    found = samples.small_grids() + [samples.flat(-2), grid(*samples.LONG, samples.noise(51, 10 ** 6))]
    found += [grid(*samples.ONE_AND_FIVE, samples.noise(52, 10 ** 6)), grid(*samples.MIXED, samples.noise(53, 2))]
    return [Ground(value) for value in found]


class Checks(unittest.TestCase):

    def refuse(self, call, arguments, at):
        with self.assertRaises(BadValue) as caught:
            call(*arguments)
        self.assertEqual(caught.exception.at, at)

    def refuse_point(self, call, arguments, thing):
        with self.assertRaises(NoPoint) as caught:
            call(*arguments)
        self.assertIs(caught.exception.place, thing)

    def check_points(self, call, more):
        """The errors that all three have for their two points; more stands behind them."""
        value = grid(*samples.ONCE, samples.dull)
        good = (8, 4, 4)
        for wrong in NO_POINTS:
            self.refuse_point(call, (value, wrong, good) + more, wrong)
            self.refuse_point(call, (value, good, wrong) + more, wrong)
            other = [1, 1, 1]
            self.refuse_point(call, (value, wrong, other) + more, wrong)
            self.refuse(call, (None, wrong, other) + more, 0)
        for one, other in ((good, good), (good, list(good)), (list(good), good), (list(good), list(good))):
            self.refuse(call, (value, one, other) + more, 2)
            self.refuse(call, (value[:2], one, other) + more, 0)


class Joined(Checks):

    def check(self, ground, one, other):
        number, way = joined(ground.value, one, other)
        self.assertEqual(number, pair(ground.greatest(one, other)))
        self.assertTrue(is_plain((number, way)))
        self.assertEqual((way[0], way[-1]), (one, other))
        self.assertEqual(len(set(way)), len(way))
        for start, end in zip(way, way[1:]):
            self.assertIn(end, ground.near[start])
        self.assertEqual(min(ground.mesh.points[place] for place in way), Fraction(*number))
        return way

    def test_of_the_worked_example(self):
        number, way = joined(samples.worked(), (0, 0, 0), (8, 8, 8))
        self.assertEqual(number, (2, 1))
        self.assertEqual(len(set(way)), len(way))
        self.assertEqual(joined(samples.worked(), (0, 0, 8), (8, 8, 8))[0], (0, 1))
        self.assertEqual(joined(samples.worked(), (0, 4, 4), (8, 4, 4))[0], (2, 1))
        self.assertEqual(joined(samples.worked(), (0, 0, 8), (0, 0, 0)), ((0, 1), ((0, 0, 8), (0, 0, 0))))

    def test_neighbours_may_have_a_way_around(self):
        # The edge between two neighbours is a way, and no way is higher than its ends.
        ground = Ground(grid(*samples.ONCE, samples.noise(54, 30)))
        for one in ground.places[::4]:
            for other in sorted(ground.near[one]):
                self.check(ground, one, other)
                lesser = min(ground.mesh.points[one], ground.mesh.points[other])
                self.assertEqual(joined(ground.value, one, other)[0], pair(lesser))

    def test_all_pairs_of_one_cell(self):
        for value in (samples.worked(), grid((1, 1, 1), (), samples.noise(55, 3)), samples.flat()):
            ground = Ground(value)
            for one in ground.places:
                for other in ground.places:
                    if one != other:
                        self.check(ground, one, other)

    def test_pairs_anywhere(self):
        for ground in grounds():
            for one, other in ground.pairs(12):
                self.check(ground, one, other)

    def test_far_points_on_the_border_and_within(self):
        ground = Ground(grid((2, 2, 2), ((0, 0, 0, 8), (8, 8, 8, 8)), samples.noise(56, 50)))
        for one, other in (((0, 0, 0), (16, 16, 16)), ((2, 2, 2), (14, 14, 14)), ((0, 0, 0), (12, 12, 12)),
                           ((4, 4, 4), (16, 0, 16)), ((6, 6, 6), (12, 4, 12)), ((16, 4, 4), (0, 16, 8))):
            self.assertGreater(len(self.check(ground, one, other)), 2)
            self.check(ground, other, one)

    def test_the_number_does_not_depend_on_the_sense(self):
        for ground in grounds():
            for one, other in ground.pairs(10, 2):
                self.assertEqual(joined(ground.value, one, other)[0], joined(ground.value, other, one)[0])

    def test_a_ridge_that_winds(self):
        # From the one to the other the ridge goes around three sides, all else lies deep.
        ridge = {(0, 0): 9, (4, 0): 8, (8, 0): 8, (12, 0): 8, (16, 0): 7, (16, 4): 6, (16, 8): 7, (16, 12): 8,
                 (16, 16): 8, (12, 16): 8, (8, 16): 8, (4, 16): 8, (0, 16): 9}
        halved = ((0, 0, 0, 8), (0, 8, 0, 8), (8, 0, 0, 8), (8, 8, 0, 8))
        value = grid((2, 2, 1), halved, lambda place: ridge.get(place[:2], -50) if place[2] == 0 else -50)
        number, way = joined(value, (0, 0, 0), (0, 16, 0))
        self.assertEqual(number, (6, 1))
        self.assertEqual(way, tuple((x, y, 0) for x, y in ridge))

    def test_numbers_that_are_no_integers(self):
        value = grid((1, 1, 1), (), lambda place: 3 if place in ((0, 0, 0), (8, 8, 8)) else 0)
        self.assertEqual(joined(value, (0, 0, 0), (8, 8, 8)), ((3, 4), ((0, 0, 0), (4, 4, 4), (8, 8, 8))))

    def test_it_is_the_level_of_one_piece(self):
        for ground in grounds()[:5]:
            for one, other in ground.pairs(3, 3):
                number = Fraction(*joined(ground.value, one, other)[0])
                for level, together in ((number, True), (number + TINY, False)):
                    inside = {place for place, found in ground.mesh.points.items() if found >= level}
                    groups = oracle.pieces(ground.near, inside)
                    self.assertEqual(any({one, other} <= group for group in groups), together)
                    self.assertEqual(kind(ground.value, pair(level))[0], len(groups))

    def test_equal_calls_tell_the_same(self):
        value = grid(*samples.MIXED, samples.noise(57, 1))
        for one, other in Ground(value).pairs(8):
            expected = joined(value, one, other)
            self.assertEqual(joined(value, one, other), expected)
            for given in (as_lists(value), as_mixed(value)):
                self.assertEqual(joined(given, list(one), list(other)), expected)

    def test_errors(self):
        self.check_points(joined, ())


class Wall(Checks):

    def test_of_the_worked_example(self):
        value = samples.worked()
        self.assertEqual(wall(value, (0, 4, 4), (8, 4, 4)), ())
        self.assertTrue(wall_holds(value, (0, 0, 0), (8, 8, 8), (2, 1), ((0, 0, 0),)))
        self.assertFalse(wall_holds(value, (0, 0, 0), (8, 8, 8), (1999999, 10 ** 6), ((0, 0, 0),)))

    def test_it_holds_and_for_no_lesser_number(self):
        for ground in grounds():
            for one, other in ground.pairs(8, 4):
                number = Fraction(*joined(ground.value, one, other)[0])
                found = wall(ground.value, one, other)
                self.assertIs(type(found), tuple)
                self.assertTrue(is_plain(found))
                self.assertTrue(ground.is_wall(one, other, number, found))
                self.assertIs(wall_holds(ground.value, one, other, pair(number), found), True)
                self.assertIs(wall_holds(ground.value, one, other, pair(number + TINY), found), True)
                for lesser in (number - TINY, ground.next_below(number)):
                    self.assertIs(wall_holds(ground.value, one, other, pair(lesser), found), False)

    def test_both_kinds_are_met(self):
        empty = [not wall(ground.value, *ends) for ground in grounds() for ends in ground.pairs(8, 4)]
        self.assertGreater(sum(empty), 10)
        self.assertGreater(len(empty) - sum(empty), 10)

    def test_equal_calls_tell_the_same(self):
        value = grid(*samples.MIXED, samples.noise(57, 10))
        for one, other in Ground(value).pairs(5):
            expected = wall(value, one, other)
            self.assertEqual(wall(value, one, other), expected)
            self.assertEqual(wall(as_lists(value), list(one), list(other)), expected)
            self.assertTrue(is_plain(wall(as_mixed(value), list(one), other)))

    def test_errors(self):
        self.check_points(wall, ())


class WallHolds(Checks):

    def setUp(self):
        # Two peaks in a plain: the wall around the first one has several points.
        peaks = {(0, 0, 0): 90, (4, 0, 0): 50, (16, 0, 0): 80}
        self.ground = Ground(grid((2, 1, 1), (A,), lambda place: peaks.get(place, 0)))
        self.one, self.other = (0, 0, 0), (16, 0, 0)
        self.number = Fraction(*joined(self.ground.value, self.one, self.other)[0])
        self.wall = wall(self.ground.value, self.one, self.other)

    def holds(self, number, value):
        return wall_holds(self.ground.value, self.one, self.other, pair(number), value)

    def test_a_place_left_out(self):
        self.assertGreater(len(self.wall), 5)
        self.assertIs(self.holds(self.number, self.wall), True)
        for k in range(len(self.wall)):
            self.assertIs(self.holds(self.number, self.wall[:k] + self.wall[k + 1:]), False)

    def test_any_sequence_of_places(self):
        self.assertIs(self.holds(self.number, self.wall[::-1]), True)
        self.assertIs(self.holds(self.number, self.wall[3:] + self.wall[:3]), True)

    def test_a_place_twice(self):
        for place in self.wall:
            self.assertIs(self.holds(self.number, self.wall + (place,)), False)
            self.assertIs(self.holds(self.number, (list(place),) + self.wall), False)
            self.assertIs(self.holds(1000, self.wall + (place,)), False)

    def test_a_place_put_in(self):
        # A greater wall holds if what is around it is low enough.
        results = set()
        for place in self.ground.places:
            if place not in self.wall:
                more = self.wall + (place,)
                expected = self.ground.is_wall(self.one, self.other, self.number, more)
                self.assertIs(self.holds(self.number, more), expected)
                results.add(expected)
        self.assertEqual(results, {True, False})
        self.assertIs(self.holds(self.number, self.wall + (self.other,)), False)
        self.assertIs(self.holds(1000, self.wall + (self.other,)), False)

    def test_no_point_put_in(self):
        for wrong in NO_POINTS:
            self.assertIs(self.holds(1000, self.wall + (wrong,)), False)
            self.assertIs(self.holds(1000, (wrong,) + self.wall), False)
            self.assertIs(self.holds(1000, [wrong]), False)

    def test_without_one(self):
        self.assertIs(self.holds(1000, ((4, 4, 4),)), False)
        self.assertIs(self.holds(1000, (self.other,)), False)
        self.assertIs(self.holds(1000, (self.one,)), True)
        self.assertIs(self.holds(1000, (self.one, self.other)), False)

    def test_all_but_the_other(self):
        rest = tuple(place for place in self.ground.places if place != self.other)
        self.assertIs(self.holds(80, rest), True)
        self.assertIs(self.holds(80 - TINY, rest), False)

    def test_the_empty_wall(self):
        for number, expected in ((90, True), (90 + TINY, True), (90 - TINY, False), (1000, True), (-1000, False)):
            self.assertIs(self.holds(number, ()), expected)
            self.assertIs(self.holds(number, []), expected)
        self.assertIs(wall_holds(self.ground.value, self.other, self.one, (80, 1), ()), True)
        self.assertIs(wall_holds(self.ground.value, self.other, self.one, (79, 1), ()), False)

    def test_where_the_empty_wall_holds_others_do_too(self):
        self.assertIs(self.holds(90, (self.one,)), True)
        self.assertIs(self.holds(50, (self.one,)), True)
        self.assertIs(self.holds(50 - TINY, (self.one,)), False)

    def test_numbers_that_an_eighth_parts(self):
        value = grid((1, 1, 1), (), lambda place: 1 if place == (0, 0, 0) else 0)
        one, other = (0, 0, 0), (8, 8, 8)
        around = (one, (0, 4, 4), (4, 0, 4), (4, 4, 0))
        for number, expected in (((0, 1), False), ((1, 8), True), ((1, 9), False), ((1, 7), True)):
            self.assertIs(wall_holds(value, (4, 4, 4), other, number, ()), expected)
            self.assertIs(wall_holds(value, one, other, number, around), expected)

    def test_against_the_definition(self):
        source = Random(7)
        results = []
        for ground in grounds()[:6]:
            for one, other in ground.pairs(6, 5):
                found = list(wall(ground.value, one, other)) or [one]
                number = Fraction(*joined(ground.value, one, other)[0])
                for _ in range(6):
                    changed = [place for place in found if source.random() < 0.95]
                    changed += source.sample(ground.places, source.randint(0, 2))
                    for level in (number, ground.mesh.points[one], number - TINY, number + 5):
                        expected = ground.is_wall(one, other, level, changed)
                        self.assertIs(wall_holds(ground.value, one, other, pair(level), changed), expected)
                        results.append(expected)
        self.assertGreater(results.count(True), 40)
        self.assertGreater(results.count(False), 40)

    def test_a_wall_that_holds_parts_the_pieces(self):
        for ground in grounds()[:6]:
            for one, other in ground.pairs(6, 6):
                number = Fraction(*joined(ground.value, one, other)[0])
                for many in (1, 5, 40):
                    # The greatest points beside the first one, as many as that.
                    order = sorted(ground.places, key=lambda place: -ground.mesh.points[place])
                    places = [one] + [place for place in order if place not in (one, other)][:many]
                    for level in sorted(set(ground.mesh.points.values()))[::40]:
                        if wall_holds(ground.value, one, other, pair(level), places):
                            self.assertGreaterEqual(level, number)

    def test_lists(self):
        for given in (as_lists(self.wall), as_mixed(self.wall), as_mixed(self.wall, 1)):
            for number, expected in ((self.number, True), (self.number - TINY, False)):
                found = wall_holds(as_lists(self.ground.value), list(self.one), list(self.other), list(pair(number)), given)
                self.assertIs(found, expected)

    def test_what_is_no_wall(self):
        deep = []
        for _ in range(19):
            deep = [deep]
        for wrong in (None, True, False, 0, 1, "", "wall", "(0, 0, 0)", (0, 0, 0), [0, 0, 0], deep, [[]], ((),),
                      [None], (self.wall,), [self.one, "000"], (self.one, None), (self.one, True), self.one,
                      [0] * 8000, ((0, 0, 0, 0),), ((0, 0),), ((False, 0, 0),), ((0, 0, 0), (0, 0, False)),
                      ((10 ** 30, 0, 0), self.one), (self.one + (0,),)):
            self.assertIs(self.holds(1000 if wrong else 10, wrong), False)

    def test_the_wall_spoiled(self):
        for wrong in samples.spoiled(self.wall[:4])[:400]:
            if wrong not in (self.wall[:4], self.wall[:3], self.wall[1:4]):
                self.assertIs(self.holds(1000, wrong), False)

    def test_errors(self):
        self.check_points(wall_holds, ((2, 1), ()))
        self.check_points(wall_holds, (None, None))

    def test_no_number(self):
        for wrong in samples.NO_FRACTIONS:
            self.refuse(wall_holds, (self.ground.value, self.one, self.other, wrong, self.wall), 3)
            self.refuse(wall_holds, (self.ground.value, self.one, self.other, wrong, None), 3)
            self.refuse(wall_holds, (self.ground.value, self.one, list(self.one), wrong, None), 2)
            self.refuse_point(wall_holds, (self.ground.value, wrong, self.one, wrong, None), wrong)

    def test_numbers_of_great_tops_and_bottoms(self):
        for top, bottom in ((10 ** 12, 1), (-10 ** 12, 1), (1 - 10 ** 12, 10 ** 6), (10 ** 25 + 1, 10 ** 20)):
            number = Fraction(top, bottom)
            self.assertIs(self.holds(number, self.wall), number >= self.number)


class All(unittest.TestCase):

    def test_points_of_a_grid_are_told_as_they_are(self):
        # A middle of a coarse square that is a corner, and the middle of a halved cell.
        value = grid(*samples.ONCE, samples.dull)
        known = dict(points(value))
        number, way = joined(value, (4, 4, 4), (8, 4, 4))
        self.assertEqual(number, min(known[(4, 4, 4)], known[(8, 4, 4)]))
        self.assertEqual(way[0], (4, 4, 4))


if __name__ == "__main__":
    unittest.main()
