import unittest
from fractions import Fraction
from random import Random

import oracle
import samples
from levelkind.errors import BadValue, NoPoint
from levelkind.kinds import around, kind, kind_below, kinds, turning
from levelkind.meshes import points
from levelkind.surfaces import drawn, room, sheets
from oracle import levels, pair
from samples import A, as_lists, as_mixed, grid, is_plain

FOUR = ((0, 0, 0, 8), (0, 8, 0, 8), (8, 0, 0, 8), (8, 8, 0, 8))


def at(places, number=9, other=0):
    """Numbers that are one at these places and another elsewhere."""
    return lambda place: number if place in places else other


def ring():
    """A grid with a ring of corners around the middle line of the box."""
    places = {(x, y, 4) for x in (4, 8, 12) for y in (4, 8, 12)} - {(8, 8, 4)}
    return grid((2, 2, 1), FOUR, at(places))


def shell():
    """A grid with a hollow."""
    return grid((1, 1, 1), (A,), at({(4, 4, 4)}, 0, 1))


def spots():
    """A grid with two points far from the border and two on it."""
    places = {(0, 0, 0), (4, 4, 4), (12, 4, 4), (16, 16, 16)}
    return grid((2, 2, 2), ((0, 0, 0, 8), (8, 0, 0, 8)), at(places))


def negated(value):
    size, halved, numbers = value
    return (size, halved, tuple((place, -number) for place, number in numbers))


def numbers_of(value):
    return sorted({Fraction(*number) for _, number in points(value)})


class Worked(unittest.TestCase):

    def test_the_overview(self):
        value = samples.worked()
        self.assertEqual((kind(value, (3, 1)), kind(value, (2, 1))), ((2, 0, 0), (1, 0, 0)))
        self.assertEqual(kinds(value), ((None, (2, 1), (1, 0, 0)), ((2, 1), (8, 1), (2, 0, 0)),
                                        ((8, 1), None, (0, 0, 0))))

    def test_below(self):
        value = samples.worked()
        self.assertEqual(kind_below(value, (0, 1)), (0, 0, 0))
        # The corners with 0 hang together along the edges of the box, around a tunnel from the one 8 to the other.
        self.assertEqual(kind_below(value, (1, 2)), (1, 1, 0))
        self.assertEqual(kind_below(value, (2, 1)), (1, 1, 0))
        self.assertEqual(kind_below(value, (3, 1)), (1, 0, 0))
        self.assertEqual(kind_below(value, (8, 1)), (1, 0, 0))
        self.assertEqual(kind_below(value, (9, 1)), (1, 0, 0))

    def test_around_and_turning(self):
        value = samples.worked()
        self.assertEqual(around(value, (0, 0, 0)), (0, 0))
        self.assertEqual(around(value, (8, 8, 8)), (0, 0))
        self.assertEqual(around(value, (4, 4, 4)), (2, 2))
        # The least point has all of its link behind it, this one shares its number with its middle.
        self.assertEqual(around(value, (0, 0, 8)), (1, 1))
        self.assertEqual(around(value, (0, 4, 4)), (1, 1))
        self.assertEqual(around(value, (4, 4, 8)), (1, 1))
        self.assertEqual(turning(value), ((4, 4, 4), (0, 0, 0), (8, 8, 8)))


class Kind(unittest.TestCase):

    def test_a_hollow(self):
        value = shell()
        self.assertEqual(kind(value, (1, 1)), (1, 0, 1))
        self.assertEqual(kind_below(value, (1, 1)), (1, 0, 0))
        self.assertEqual(kind(value, (1, 10 ** 6)), (1, 0, 1))
        self.assertEqual(kind(value, (0, 1)), (1, 0, 0))
        self.assertEqual(kind_below(value, (0, 1)), (0, 0, 0))
        self.assertEqual(kinds(value), ((None, (0, 1), (1, 0, 0)), ((0, 1), (1, 1), (1, 0, 1)),
                                        ((1, 1), None, (0, 0, 0))))

    def test_a_dent_is_no_hollow(self):
        value = grid((1, 1, 1), (A,), at({(4, 4, 0)}, 0, 1))
        self.assertEqual(kind(value, (1, 1)), (1, 0, 0))
        self.assertEqual(kind_below(value, (1, 1)), (1, 0, 0))

    def test_below_around_a_hollow(self):
        value = negated(shell())
        self.assertEqual(kind(value, (0, 1)), (1, 0, 0))
        self.assertEqual(kind_below(value, (0, 1)), (1, 0, 1))
        self.assertEqual(kind_below(value, (1, 1)), (1, 0, 0))

    def test_a_tunnel(self):
        value = ring()
        self.assertEqual(kind(value, (9, 1)), (1, 1, 0))
        self.assertEqual(kind_below(value, (9, 1)), (1, 1, 1))
        self.assertEqual(kind(value, (0, 1)), (1, 0, 0))

    def test_a_tunnel_through_the_box(self):
        value = grid(*samples.SIX_ROOTS, at({(x, 4, 4) for x in range(0, 17, 4)}, 0, 1))
        self.assertEqual(kind(value, (1, 1)), (1, 1, 0))
        self.assertEqual(kind_below(value, (1, 1)), (1, 0, 0))

    def test_several_pieces(self):
        value = spots()
        self.assertEqual(kind(value, (9, 1)), (4, 0, 0))
        self.assertEqual(kind_below(value, (9, 1)), (1, 0, 2))
        self.assertEqual(kind(negated(value), (-8, 1)), (1, 0, 2))
        self.assertEqual(kind_below(negated(value), (-8, 1)), (4, 0, 0))
        # At 0 the middle of a cell joins the first two.
        self.assertEqual(kind(negated(value), (0, 1)), (1, 0, 1))
        self.assertEqual(kind_below(negated(value), (0, 1)), (3, 0, 0))

    def test_two_plates(self):
        value = grid((1, 1, 2), (), lambda place: 0 if place[2] == 8 else 5)
        self.assertEqual(kind(value, (5, 1)), (2, 0, 0))
        self.assertEqual(kind_below(value, (5, 1)), (1, 0, 0))
        self.assertEqual(kind_below(value, (1, 1)), (1, 0, 0))

    def test_above_and_below_all(self):
        for value in samples.grids():
            numbers = numbers_of(value)
            for level in (numbers[0], numbers[0] - Fraction(1, 10 ** 6), Fraction(-10 ** 12)):
                self.assertEqual(kind(value, pair(level)), (1, 0, 0))
                self.assertEqual(kind_below(value, pair(level)), (0, 0, 0))
            for level in (numbers[-1] + Fraction(1, 10 ** 6), Fraction(10 ** 12)):
                self.assertEqual(kind(value, pair(level)), (0, 0, 0))
                self.assertEqual(kind_below(value, pair(level)), (1, 0, 0))

    def test_against_the_frames(self):
        for value in samples.grids():
            told = oracle.Kinds(value)
            for level in levels(told.mesh):
                self.assertEqual(kind(value, pair(level)), told.kind(level))
                self.assertEqual(kind_below(value, pair(level)), told.kind_below(level))

    def test_against_homology(self):
        tried = (samples.worked(), shell(), negated(shell()), grid(*samples.ONCE, samples.noise(31, 9)),
                 grid((2, 2, 2), (), samples.noise(32, 9)), grid(*samples.DIAGONAL, samples.noise(33, 1)))
        for value in tried:
            told = oracle.Kinds(value)
            for level in levels(told.mesh):
                above = {place for place, number in told.mesh.points.items() if number >= level}
                parts = [part for part in told.parts if above.issuperset(part)]
                self.assertEqual(kind(value, pair(level)) + (0,), oracle.betti(parts))
                parts = [part for part in told.parts if above.isdisjoint(part)]
                self.assertEqual(kind_below(value, pair(level)) + (0,), oracle.betti(parts))

    def test_none_is_below_nought(self):
        for value in samples.grids():
            found = {kind_ for _, _, kind_ in kinds(value)} | {kind_below(value, pair(level))
                                                                for level in numbers_of(value)[::20]}
            self.assertGreaterEqual(min(min(row) for row in found), 0)

    def test_many_of_each(self):
        # The noise has pieces, tunnels and hollows, so that what is compared is no empty thing.
        found = kinds(grid(*samples.MIXED, samples.noise(207, samples.BOUND)))
        self.assertGreater(max(row[2][0] for row in found), 5)
        self.assertGreater(max(row[2][1] for row in found), 5)
        self.assertGreater(max(row[2][2] for row in found), 2)

    def test_levels_of_great_tops_and_bottoms(self):
        value = grid(*samples.ONCE, samples.noise(3, 10 ** 6))
        told = oracle.Kinds(value)
        for number in (Fraction(999982999983, 10 ** 6), Fraction(-123456789, 999983), Fraction(3, 10 ** 25 + 1),
                       Fraction(10 ** 25 + 1, 10 ** 20)):
            self.assertEqual(kind(value, pair(number)), told.kind(number))
            self.assertEqual(kind_below(value, pair(number)), told.kind_below(number))

    def test_sheets_have_the_euler_numbers_of_both_sides(self):
        for value in samples.grids()[1::3] + [ring(), shell(), spots()]:
            for level in levels(oracle.Mesh(value), 3):
                euler = [a - b + c for a, b, c in (kind(value, pair(level)), kind_below(value, pair(level)))]
                self.assertEqual(sum(row[0] for row in sheets(value, pair(level))), sum(euler) - 1)

    def test_no_level(self):
        for function in (kind, kind_below):
            for wrong in samples.NO_FRACTIONS:
                with self.assertRaises(BadValue) as caught:
                    function(samples.worked(), wrong)
                self.assertEqual(caught.exception.at, 1)

    def test_lists(self):
        value = grid(*samples.TWICE, samples.dull)
        for given in (as_lists(value), as_mixed(value), as_mixed(value, 1)):
            for function in (kind, kind_below):
                self.assertEqual(function(given, [7, 3]), function(value, (7, 3)))
                self.assertTrue(is_plain(function(given, [7, 3])))


class AllLevels(unittest.TestCase):

    def test_flat(self):
        self.assertEqual(kinds(samples.flat(-7)), ((None, (-7, 1), (1, 0, 0)), ((-7, 1), None, (0, 0, 0))))

    def test_numbers_at_which_nothing_changes_are_no_bounds(self):
        value = grid((2, 2, 2), (), lambda place: place[1])
        self.assertEqual(kinds(value), ((None, (16, 1), (1, 0, 0)), ((16, 1), None, (0, 0, 0))))

    def test_points_with_the_same_number_turn_together(self):
        value = grid((2, 1, 1), ((0, 0, 0, 8), (8, 0, 0, 8)), at({(4, 4, 4), (12, 4, 4)}, 0, 1))
        self.assertEqual(kinds(value), ((None, (0, 1), (1, 0, 0)), ((0, 1), (1, 1), (1, 0, 2)),
                                        ((1, 1), None, (0, 0, 0))))
        self.assertEqual(kinds(negated(value))[-2:], (((-1, 1), (0, 1), (2, 0, 0)), ((0, 1), None, (0, 0, 0))))

    def test_bounds_that_are_no_integers(self):
        value = grid((1, 1, 1), (), at({(0, 0, 0), (8, 8, 8)}, 3))
        self.assertEqual([row[1] for row in kinds(value)], [(3, 4), (3, 1), None])

    def test_the_form(self):
        for value in samples.grids():
            found = kinds(value)
            self.assertIs(found[0][0], None)
            self.assertIs(found[-1][1], None)
            self.assertEqual(found[0][2], (1, 0, 0))
            self.assertEqual(found[-1][2], (0, 0, 0))
            bounds = [row[1] for row in found[:-1]]
            self.assertEqual(bounds, [row[0] for row in found[1:]])
            self.assertTrue(is_plain(tuple(bounds)))
            self.assertEqual(sorted(set(bounds), key=lambda bound: Fraction(*bound)), bounds)
            for one, other in zip(found, found[1:]):
                self.assertNotEqual(one[2], other[2])
            self.assertIs(type(found), tuple)
            for row in found:
                self.assertIs(type(row), tuple)
                self.assertEqual(len(row), 3)
                self.assertTrue(is_plain(row[2]))

    def test_they_are_numbers_of_points(self):
        for value in samples.small_grids():
            known = {number for _, number in points(value)}
            for _, high, _ in kinds(value)[:-1]:
                self.assertIn(high, known)

    def test_kind_at_and_between_all_bounds(self):
        tiny = Fraction(1, 10 ** 6)
        for value in samples.small_grids() + [ring(), spots(), grid(*samples.LONG, samples.noise(41, 10 ** 6))]:
            for low, high, expected in kinds(value):
                tried = []
                if high is not None:
                    tried.append(Fraction(*high))
                if low is not None:
                    tried.append(Fraction(*low) + tiny)
                if low is None:
                    tried.append(Fraction(*high) - 1000)
                if high is None:
                    tried.append(Fraction(*low) + 1000)
                if None not in (low, high):
                    tried.append((Fraction(*low) + Fraction(*high)) / 2)
                for level in tried:
                    self.assertEqual(kind(value, pair(level)), expected)

    def test_kind_at_every_number(self):
        for value in samples.small_grids()[:4] + [grid(*samples.ONE_AND_FIVE, samples.noise(9, 4))]:
            told = kinds(value)
            numbers = numbers_of(value)
            for level in numbers + [(low + high) / 2 for low, high in zip(numbers, numbers[1:])]:
                found = [row[2] for row in told if (row[0] is None or Fraction(*row[0]) < level)
                         and (row[1] is None or level <= Fraction(*row[1]))]
                self.assertEqual(found, [kind(value, pair(level))])

    def test_lists(self):
        value = grid(*samples.MIXED, samples.noise(9, 5))
        for given in (as_lists(value), as_mixed(value), as_mixed(value, 1)):
            self.assertEqual(kinds(given), kinds(value))


class Around(unittest.TestCase):

    def test_the_place_decides_between_equal_numbers(self):
        value = samples.flat(5)
        self.assertEqual(around(value, (0, 0, 0)), (1, 1))
        self.assertEqual(around(value, (8, 8, 8)), (0, 0))
        self.assertEqual(around(value, (4, 4, 4)), (1, 1))
        # Of its neighbours (4, 4, 4), (8, 4, 4), (8, 8, 0) and (8, 8, 8) come behind it, not (0, 8, 8) and the like.
        self.assertEqual(around(value, (4, 8, 4)), (1, 1))
        self.assertEqual(turning(value), ((8, 8, 8),))

    def test_a_saddle(self):
        # Two opposite corners of each face are high, so that each middle joins them.
        high = {(0, 0, 0), (0, 8, 8), (8, 0, 8), (8, 8, 0)}
        value = grid((1, 1, 1), (), at(high, 8))
        for place in ((0, 4, 4), (4, 0, 4), (4, 4, 0)):
            self.assertEqual(around(value, place), (1, 1))
        for place in ((4, 4, 8), (4, 8, 4), (8, 4, 4)):
            self.assertEqual(around(value, place), (2, 2))
        # Three middles of faces come behind that of the cell: one high corner is apart, the others are on a ring.
        self.assertEqual(around(value, (4, 4, 4)), (2, 1))
        self.assertEqual([around(value, place) for place in sorted(high)], [(0, 0)] * 4)

    def test_the_least_point_within(self):
        self.assertEqual(around(shell(), (4, 4, 4)), (1, 2))
        self.assertEqual(around(negated(shell()), (4, 4, 4)), (0, 0))

    def test_a_ring_around_a_point(self):
        value = grid((2, 2, 1), FOUR, lambda place: 0 if place[:2] == (8, 8) else 1 if place[2] == 4 else -1)
        self.assertEqual(around(value, (8, 8, 4)), (1, 0))

    def test_of_every_point(self):
        for value in samples.grids()[::2]:
            told = oracle.Kinds(value)
            for place in sorted(told.mesh.points)[::9]:
                self.assertEqual(around(value, place), told.around(place))

    def test_of_all_points_of_small_grids(self):
        for value in (samples.worked(), samples.flat(), shell(), grid(*samples.LONG, samples.noise(17, 2)),
                      grid(*samples.ONCE, samples.noise(18, 10 ** 6))):
            told = oracle.Kinds(value)
            self.assertEqual({place: around(value, place) for place in told.mesh.points},
                             {place: told.around(place) for place in told.mesh.points})

    def test_no_point(self):
        value = grid(*samples.ONCE, samples.dull)
        for wrong in ((1, 0, 0), (12, 4, 2), (20, 4, 4), (-4, 4, 4), (0, 0), (0, 0, 0, 0), (), [], None, True, 0, "000",
                      "", (False, 0, 0), [0, 0, False], ((0, 0, 0),), [[0], 0, 0], (0, None, 0), (0, 0, "0"),
                      (10 ** 30, 0, 0), (12, 0, 0), (8, 4, 4, 0)):
            with self.assertRaises(NoPoint) as caught:
                around(value, wrong)
            self.assertIs(caught.exception.place, wrong)

    def test_lists(self):
        value = grid(*samples.ONCE, samples.dull)
        for given in (as_lists(value), as_mixed(value), as_mixed(value, 1)):
            self.assertEqual(around(given, [8, 4, 4]), around(value, (8, 4, 4)))
            self.assertEqual(turning(given), turning(value))
            self.assertTrue(is_plain((around(given, [8, 4, 4]), turning(given))))


class Turning(unittest.TestCase):

    def test_all_points_around_which_it_is_not_simple(self):
        for value in samples.small_grids() + [ring(), shell(), spots()]:
            order = oracle.Kinds(value).order()
            self.assertEqual(turning(value), tuple(place for place in order if around(value, place) != (1, 1)))

    def test_the_kind_changes_at_them_alone(self):
        for value in samples.grids():
            numbers = dict(points(value))
            found = {numbers[place] for place in turning(value)}
            # The kind at a level differs from that just above it: the number is among them.
            for _, high, _ in kinds(value)[:-1]:
                self.assertIn(high, found)

    def test_sums_are_euler_numbers(self):
        for value in samples.small_grids() + [ring(), shell(), grid(*samples.LONG, samples.noise(19, 1))]:
            known = oracle.Mesh(value)
            shares = {place: 1 - around(value, place)[1] for place in known.points}
            for level in levels(known):
                pieces, tunnels, hollows = kind(value, pair(level))
                total = sum(shares[place] for place, number in known.points.items() if number >= level)
                self.assertEqual(total, pieces - tunnels + hollows)


def bent(value, source):
    """The grid with numbers that grow with its own, but not evenly."""
    size, halved, numbers = value
    return (size, halved, tuple((place, 40000 * number + source.randint(-9, 9)) for place, number in numbers))


class OrderAlone(unittest.TestCase):

    def check(self, one, other):
        first, second = dict(points(one)), dict(points(other))
        places = sorted(first)
        fractions = [(Fraction(*first[place]), Fraction(*second[place])) for place in places]
        by_first = sorted(range(len(places)), key=lambda k: fractions[k][0])
        for k, m in zip(by_first, by_first[1:]):
            self.assertEqual(fractions[k][0] < fractions[m][0], fractions[k][1] < fractions[m][1])
            self.assertLessEqual(fractions[k][1], fractions[m][1])
        self.assertNotEqual(one, other)
        self.assertEqual(turning(one), turning(other))
        for place in places[::3]:
            self.assertEqual(around(one, place), around(other, place))
        for place in places[::3 + len(places) // 12]:
            for function in (kind, kind_below, drawn, sheets):
                self.assertEqual(function(one, first[place]), function(other, second[place]))
        self.assertEqual([row[2] for row in kinds(one)], [row[2] for row in kinds(other)])

    def test_evenly(self):
        for size, halved in (samples.BARE, samples.ONCE, samples.MIXED):
            one = grid(size, halved, samples.noise(8, 4))
            self.check(one, (size, halved, tuple((place, 5 * number - 1) for place, number in one[2])))

    def test_unevenly(self):
        # The numbers of points are unlike, so they differ by an eighth or more.
        source = Random(5)
        done = 0
        for seed in range(40):
            one = grid((1, 1, 1), (), samples.noise(500 + seed, 20))
            if len(numbers_of(one)) == len(points(one)):
                self.check(one, bent(one, source))
                done += 1
        self.assertGreater(done, 5)

    def test_negated(self):
        for value in samples.small_grids() + [ring(), shell(), spots()]:
            other = negated(value)
            numbers = numbers_of(value)
            picked = numbers[::max(1, len(numbers) // 6)]
            between = [(low + numbers[numbers.index(low) + 1]) / 2 for low in picked if low != numbers[-1]]
            a, b, c = value[0]
            for level in between + [numbers[0] - 1, numbers[-1] + 1]:
                self.assertEqual(kind(value, pair(level)), kind_below(other, pair(-level)))
                self.assertEqual(kind_below(value, pair(level)), kind(other, pair(-level)))
                both = Fraction(*room(value, pair(level))) + Fraction(*room(other, pair(-level)))
                self.assertEqual(both, 512 * a * b * c)


if __name__ == "__main__":
    unittest.main()
