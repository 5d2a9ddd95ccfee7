import copy
import inspect
import unittest
from fractions import Fraction
from random import Random

import samples
from levelkind import kinds, surfaces
from levelkind.errors import BadValue, LevelError, NoCell, NoPoint, TooMany
from levelkind.fields import Field
from levelkind.grids import is_grid
from levelkind.meshes import points, tetrahedra
from oracle import pair
from samples import A, B, BOUND, as_lists, as_mixed, grid, is_plain


def fresh(value, cell, number=samples.dull):
    """The pairs that halve needs for a cell of a grid."""
    size, halved, numbers = value
    there = {place for place, _ in numbers}
    more = sorted(halved + (cell,), key=lambda part: (-part[3], part))
    return tuple((place, number(place)) for place in samples.corners(size, more) if place not in there)


def halved_grid(value, cell, number=samples.dull):
    """The grid after a cell is halved."""
    size, halved, numbers = value
    more = tuple(sorted(halved + (cell,), key=lambda part: (-part[3], part)))
    return (size, more, tuple(sorted(numbers + fresh(value, cell, number))))


def joined_grid(value, cell):
    """The grid after a halved cell is joined."""
    size, halved, numbers = value
    less = tuple(part for part in halved if part != cell)
    there = samples.corners(size, less)
    return (size, less, tuple((place, number) for place, number in numbers if place in there))


def changed_grid(value, where, number):
    size, halved, numbers = value
    return (size, halved, tuple((place, number if place == where else old) for place, old in numbers))


def meet(cell, other):
    """Whether the cubes of two cells share a place."""
    return all(max(cell[k], other[k]) <= min(cell[k] + cell[3], other[k] + other[3]) for k in range(3))


def cells_of(value):
    return samples.cells(value[0], value[1])


def having(value, place):
    return tuple(cell for cell in cells_of(value) if meet(cell, place + (0,)))


def meeting(value, cell):
    return tuple(other for other in cells_of(value) if meet(other, cell))


def looks(value):
    """For each cell its tetrahedra with the numbers of their points, and its polygons at several levels."""
    numbers = dict(points(value))
    found = {cell: [[(place, numbers[place]) for row in rows for place in row]] for cell, rows in tetrahedra(value)}
    for level in ((-30, 1), (-7, 2), (1, 3), (5, 1), (31, 1)):
        there = dict(surfaces.drawn(value, level))
        for cell in found:
            found[cell].append(there.get(cell))
    return found


class Checks(unittest.TestCase):

    def refuse(self, kind, call, *arguments):
        """The error, of this kind, that a call raises."""
        with self.assertRaises(LevelError) as caught:
            call(*arguments)
        self.assertIs(type(caught.exception), kind)
        return caught.exception

    def check_same(self, field, value):
        """Whether the field answers as a new one with this grid."""
        self.assertEqual(field.grid(), value)
        self.assertTrue(is_plain(field.grid()))
        self.assertTrue(is_grid(field.grid()))
        other = Field(value)
        self.assertTrue(field == other)
        for level in ((0, 1), (7, 3)):
            self.assertEqual(field.drawn(level), other.drawn(level))
            self.assertEqual(field.kind(level), other.kind(level))
        self.assertEqual(field.kinds(), other.kinds())

    def check_told(self, before, after, told):
        """Whether all is as before in the cells that are there before and after and are not told."""
        one, other = looks(before), looks(after)
        kept = [cell for cell in one if cell in other and cell not in told]
        for cell in kept:
            self.assertEqual(one[cell], other[cell])
        return len(kept)


class Questions(Checks):

    def test_the_grid(self):
        for value in samples.grids():
            for given in (value, as_lists(value), as_mixed(value), as_mixed(value, 1)):
                self.assertEqual(Field(given).grid(), value)
                self.assertTrue(is_plain(Field(given).grid()))

    def test_as_the_functions(self):
        for value in samples.small_grids():
            field = Field(value)
            for level in ((3, 1), (-1, 2), (0, 1), (50, 7)):
                self.assertEqual(field.drawn(level), surfaces.drawn(value, level))
                self.assertEqual(field.kind(level), kinds.kind(value, level))
                self.assertEqual(field.drawn(list(level)), surfaces.drawn(value, level))
                self.assertEqual(field.kind(list(level)), kinds.kind(value, level))
            self.assertEqual(field.kinds(), kinds.kinds(value))

    def test_of_the_worked_example(self):
        field = Field(samples.worked())
        self.assertEqual((field.kind((3, 1)), field.kind((2, 1))), ((2, 0, 0), (1, 0, 0)))
        self.assertEqual(len(field.drawn((3, 1))[0][1]), 12)
        self.assertEqual(len(field.kinds()), 3)

    def test_no_grid(self):
        for wrong in (None, True, 0, 1, "", "grid", (), [], ((1, 1, 1), (), ()), samples.worked()[:2]):
            self.assertEqual(self.refuse(BadValue, Field, wrong).at, 0)
        for wrong in samples.spoiled(samples.worked())[::3]:
            self.assertEqual(self.refuse(BadValue, Field, wrong).at, 0)

    def test_a_field_is_no_grid(self):
        self.assertEqual(self.refuse(BadValue, Field, Field(samples.worked())).at, 0)

    def test_no_level(self):
        field = Field(samples.worked())
        for wrong in samples.NO_FRACTIONS:
            self.assertEqual(self.refuse(BadValue, field.drawn, wrong).at, 0)
            self.assertEqual(self.refuse(BadValue, field.kind, wrong).at, 0)
        self.check_same(field, samples.worked())

    def test_methods_stand_in_the_class(self):
        for name, names in (("__init__", ["grid"]), ("grid", []), ("drawn", ["level"]), ("kind", ["level"]),
                            ("kinds", []), ("copy", []), ("__eq__", ["other"]), ("change", ["place", "number"]),
                            ("halve", ["cell", "numbers"]), ("join", ["cell"])):
            self.assertIn(name, vars(Field))
            self.assertEqual(list(inspect.signature(vars(Field)[name]).parameters)[1:], names)
        self.assertEqual(Field.__module__, "levelkind.fields")

    def test_by_name(self):
        value = grid((2, 1, 1), (), samples.dull)
        field = Field(grid=value)
        self.assertEqual(field.drawn(level=(1, 2)), surfaces.drawn(value, (1, 2)))
        self.assertEqual(field.kind(level=(1, 2)), kinds.kind(value, (1, 2)))
        self.assertEqual(field.change(place=(0, 0, 0), number=3), (A,))
        value = changed_grid(value, (0, 0, 0), 3)
        self.assertEqual(field.halve(cell=A, numbers=fresh(value, A)), (A, B))
        self.assertEqual(field.grid(), halved_grid(value, A))
        self.assertEqual(field.join(cell=A), (A, B))
        self.assertEqual(field.grid(), value)


class Equal(Checks):

    def test_fields_with_equal_grids(self):
        value = grid(*samples.ONCE, samples.dull)
        self.assertTrue(Field(value) == Field(as_lists(value)))
        self.assertFalse(Field(value) != Field(as_mixed(value)))
        self.assertTrue(Field(value) == Field(value).copy())

    def test_other_fields(self):
        value = grid(*samples.ONCE, samples.dull)
        others = [changed_grid(value, (8, 4, 4), 77), grid((2, 1, 1), (), samples.dull), samples.worked(),
                  grid((2, 1, 1), (B,), samples.dull), grid((1, 2, 1), (A,), samples.dull)]
        for other in others:
            self.assertFalse(Field(value) == Field(other))
            self.assertTrue(Field(value) != Field(other))

    def test_a_field_equals_nothing_else(self):
        value = samples.worked()
        field = Field(value)
        for other in (value, as_lists(value), None, True, 0, "", (), [], [field], (field,), object(), Field, field.grid):
            self.assertIs(field == other, False)
            self.assertIs(other == field, False)
            self.assertIs(field != other, True)

    def test_fields_that_become_equal(self):
        value = samples.flat()
        one, other = Field(value), Field(value)
        one.change((0, 0, 0), 5)
        self.assertFalse(one == other)
        other.change((0, 0, 0), 5)
        self.assertTrue(one == other)
        one.halve(A, fresh(value, A))
        self.assertFalse(one == other)
        one.join(A)
        self.assertTrue(one == other)


class Copies(Checks):

    def test_a_copy_changes_independently(self):
        value = grid((2, 1, 1), (A,), samples.dull)
        for turn in (0, 1):
            field = Field(value)
            other = field.copy()
            self.assertIs(type(other), Field)
            self.assertTrue(field == other)
            changed, kept = (field, other) if turn else (other, field)
            changed.change((8, 4, 4), 9)
            changed.halve(B, fresh(value, B))
            changed.join(A)
            self.check_same(kept, value)
            expected = joined_grid(halved_grid(changed_grid(value, (8, 4, 4), 9), B), A)
            self.check_same(changed, expected)
            self.check_same(changed.copy(), expected)

    def test_two_fields_of_one_grid(self):
        given = as_lists(samples.worked())
        one, other = Field(given), Field(given)
        one.change((0, 0, 0), -8)
        self.check_same(other, samples.worked())
        self.assertEqual(given, as_lists(samples.worked()))


class Change(Checks):

    def test_the_cells_that_have_the_place(self):
        value = grid((2, 2, 2), (A,), samples.dull)
        field = Field(value)
        self.assertEqual(field.change((4, 4, 4), 1), tuple(samples.halves(A)))
        self.assertEqual(field.change((16, 16, 16), 1), ((8, 8, 8, 8),))
        self.assertEqual(field.change((0, 0, 0), 1), ((0, 0, 0, 4),))
        # A corner on the face of a coarse cell, and one on its edge.
        self.assertEqual(field.change((8, 4, 4), 1), ((4, 0, 0, 4), (4, 0, 4, 4), (4, 4, 0, 4), (4, 4, 4, 4), (8, 0, 0, 8)))
        self.assertEqual(field.change((8, 8, 4), 1), ((0, 8, 0, 8), (4, 4, 0, 4), (4, 4, 4, 4), (8, 0, 0, 8), (8, 8, 0, 8)))
        self.assertEqual(len(field.change((8, 8, 8), 1)), 8)

    def test_every_corner_of_every_shape(self):
        for size, halved in samples.SHAPES:
            value = grid(size, halved, samples.dull)
            field = Field(value)
            for place, number in value[2]:
                self.assertEqual(field.change(place, number), having(value, place))
            self.assertEqual(field.grid(), value)

    def test_the_number_is_changed(self):
        value = grid(*samples.ONCE, samples.dull)
        field = Field(value)
        for place, number in (((0, 0, 0), 8), ((8, 4, 4), -50), ((8, 4, 4), 51), ((16, 8, 8), 0)):
            told = field.change(place, number)
            self.assertTrue(is_plain(told))
            value = changed_grid(value, place, number)
            self.check_same(field, value)

    def test_all_else_is_as_before(self):
        for size, halved in (samples.ONCE, samples.TWICE, samples.DIAGONAL, samples.WIDE, samples.MIXED):
            value = grid(size, halved, samples.dull)
            kept = 0
            for place, number in value[2][::11]:
                field = Field(value)
                told = field.change(place, number + 40)
                kept += self.check_told(value, field.grid(), told)
                one, other = looks(value), looks(field.grid())
                self.assertEqual([cell for cell in one if one[cell][0] != other[cell][0]], list(told))
            self.assertGreater(kept, 0)

    def test_bounds(self):
        field = Field(samples.worked())
        for number in (BOUND, -BOUND, 0):
            field.change((8, 8, 8), number)
            self.assertEqual(field.grid()[2][-1], ((8, 8, 8), number))
        kept = field.grid()
        for number in (BOUND + 1, -BOUND - 1, 10 ** 30, -10 ** 30, True, False, None, "1", "", (1,), [1], (1, 1), []):
            self.assertEqual(self.refuse(BadValue, field.change, (8, 8, 8), number).at, 1)
        self.check_same(field, kept)

    def test_no_corner(self):
        value = grid(*samples.ONCE, samples.dull)
        field = Field(value)
        # Middles of cells and squares are points, but no corners.
        for wrong in ((12, 4, 4), (2, 2, 2), (8, 2, 2), (12, 4, 0), (12, 0, 0), (1, 0, 0), (-8, 0, 0), (0, 0, 24),
                      (0, 0), (0, 0, 0, 0), (), [], None, True, 0, "000", "", (False, 0, 0), [0, 0, False], ((0, 0, 0),),
                      (0, None, 0), (0, 0, "0"), (10 ** 30, 0, 0), ((0, 0, 0), 8)):
            self.assertIs(self.refuse(NoPoint, field.change, wrong, 5).place, wrong)
            self.assertIs(self.refuse(NoPoint, field.change, wrong, None).place, wrong)
        self.check_same(field, value)

    def test_lists(self):
        field = Field(samples.worked())
        place = [8, 0, 0]
        self.assertEqual(field.change(place, 7), (A,))
        place[0] = 0
        self.check_same(field, changed_grid(samples.worked(), (8, 0, 0), 7))


class Halve(Checks):

    def test_a_root_cell(self):
        value = grid((2, 2, 1), (), samples.dull)
        field = Field(value)
        self.assertEqual(field.halve(A, fresh(value, A)), tuple(cells_of(value)))
        self.check_same(field, halved_grid(value, A))
        self.assertEqual(len(fresh(value, A)), 19)

    def test_cells_that_do_not_meet_it_are_not_told(self):
        value = grid((2, 1, 1), (A,), samples.dull)
        field = Field(value)
        self.assertEqual(field.halve((0, 0, 0, 4), fresh(value, (0, 0, 0, 4))), tuple(samples.halves(A)))
        value = halved_grid(value, (0, 0, 0, 4))
        self.check_same(field, value)
        told = field.halve((4, 4, 4, 4), fresh(value, (4, 4, 4, 4)))
        self.assertEqual(told, ((0, 0, 4, 4), (0, 4, 0, 4), (0, 4, 4, 4), (2, 2, 2, 2), (4, 0, 0, 4), (4, 0, 4, 4),
                                (4, 4, 0, 4), (4, 4, 4, 4), (8, 0, 0, 8)))

    def test_in_any_sequence_of_cells(self):
        source = Random(11)
        for size in ((1, 1, 1), (2, 1, 2), (2, 2, 2)):
            for _ in range(4):
                value = grid(size, (), samples.dull)
                field = Field(value)
                for _ in range(6):
                    cell = source.choice([cell for cell in cells_of(value) if cell[3] > 2])
                    numbers = list(fresh(value, cell))
                    source.shuffle(numbers)
                    told = field.halve(cell, numbers)
                    self.assertTrue(is_plain(told))
                    self.assertEqual(told, meeting(value, cell))
                    after = halved_grid(value, cell)
                    self.assertEqual(field.grid(), after)
                    self.check_told(value, after, told)
                    value = after
                self.check_same(field, value)

    def test_all_else_is_as_before(self):
        kept = 0
        for (size, halved), cell in ((samples.WIDE, A), (samples.ONCE, (0, 4, 0, 4)), (samples.ONCE, (4, 0, 0, 4)),
                                     (samples.TWICE, B), (samples.DIAGONAL, (4, 4, 4, 4)), (samples.DIAGONAL, B)):
            value = grid(size, halved, samples.dull)
            field = Field(value)
            told = field.halve(cell, fresh(value, cell))
            self.assertEqual(told, meeting(value, cell))
            kept += self.check_told(value, field.grid(), told)
        self.assertGreater(kept, 8)

    def test_numbers_in_any_sequence(self):
        value = grid(*samples.ONCE, samples.dull)
        numbers = fresh(value, B)
        for given in (numbers[::-1], numbers[5:] + numbers[:5], as_lists(numbers), as_mixed(numbers[::-1])):
            field = Field(value)
            self.assertEqual(field.halve(B, given), tuple(cells_of(value)[4:]))
            self.check_same(field, halved_grid(value, B))

    def test_corners_that_are_there_are_not_asked_for(self):
        value = grid(*samples.ONCE, samples.dull)
        numbers = fresh(value, B)
        self.assertEqual(len(numbers), 14)
        field = Field(value)
        for place in ((8, 4, 4), (8, 0, 0), (16, 0, 0), (0, 0, 0)):
            self.assertEqual(self.refuse(BadValue, field.halve, B, numbers + ((place, 0),)).at, 1)
            self.assertEqual(self.refuse(BadValue, field.halve, B, numbers[1:] + ((place, 0),)).at, 1)
        self.check_same(field, value)

    def test_wrong_numbers(self):
        value = grid((2, 1, 1), (A,), samples.dull)
        field = Field(value)
        for cell in (B, (4, 0, 4, 4)):
            good = fresh(value, cell)
            for k in range(len(good)):
                place, number = good[k]
                rest = good[:k] + good[k + 1:]
                tried = [rest, good + good[k:k + 1], rest + good[:1] if k else rest + good[1:2]]
                for other in (None, True, "1", BOUND + 1, -BOUND - 1, (number,), 10 ** 30):
                    tried.append(rest + ((place, other),))
                for other in ((1, 1, 1), (12, 4, 3), place + (0,), place[:2], None, "abc", [place], True, (10 ** 30, 0, 0),
                              (place[0], place[1], True), (place[0], place[1], str(place[2]))):
                    tried.append(rest + ((other, number),))
                for other in (place, (place,), (place, number, 0), (number, place), None, 7, "ab", []):
                    tried.append(rest + (other,))
                for numbers in tried:
                    self.assertEqual(self.refuse(BadValue, field.halve, cell, numbers).at, 1)
            for numbers in (None, True, 0, "", "a" * len(good), (), [], dict(good), [good], good + (None,)):
                if not isinstance(numbers, dict):
                    self.assertEqual(self.refuse(BadValue, field.halve, cell, numbers).at, 1)
        self.check_same(field, value)

    def test_numbers_spoiled(self):
        value = grid((1, 1, 1), (), samples.dull)
        field = Field(value)
        good = fresh(value, A)
        for wrong in samples.spoiled(good):
            self.assertEqual(self.refuse(BadValue, field.halve, A, wrong).at, 1)
        self.check_same(field, value)

    def test_numbers_at_the_bounds(self):
        value = samples.flat()
        field = Field(value)
        numbers = [(place, BOUND if k % 2 else -BOUND) for k, (place, _) in enumerate(fresh(value, A))]
        field.halve(A, numbers)
        self.assertEqual(field.grid(), (value[0], (A,), tuple(sorted(value[2] + tuple(numbers)))))

    def test_no_cell(self):
        value = grid(*samples.TWICE, samples.dull)
        field = Field(value)
        for wrong in (A, (4, 0, 0, 4), (4, 0, 0, 2), (6, 2, 2, 2), (16, 0, 0, 8), (8, 0, 0, 4), (0, 0, 0, 3), (8, 0, 0),
                      (8, 0, 0, 8, 8), (), [], None, True, 0, "8008", [[8], 0, 0, 8], (8, 0, 0, "8"), (8, False, 0, 8),
                      ((8, 0, 0, 8),), (8, 0, 0, 10 ** 30), [4, 0, 0, 2]):
            self.assertIs(self.refuse(NoCell, field.halve, wrong, ()).cell, wrong)
            self.assertIs(self.refuse(NoCell, field.halve, wrong, None).cell, wrong)
        self.check_same(field, value)

    def test_too_many(self):
        for size, halved in (samples.SIX_ROOTS, samples.ONE_AND_FIVE, samples.MIXED):
            value = grid(size, halved, samples.dull)
            field = Field(value)
            for cell in cells_of(value):
                for numbers in (fresh(value, cell), None, ()):
                    if cell[3] == 2:
                        self.assertEqual(self.refuse(NoCell, field.halve, cell, numbers).cell, cell)
                    else:
                        self.refuse(TooMany, field.halve, cell, numbers)
            self.assertEqual(self.refuse(NoCell, field.halve, halved[0], None).cell, halved[0])
            self.check_same(field, value)

    def test_the_sixth_is_not_too_many(self):
        value = grid((2, 2, 2), samples.roots((2, 2, 2))[:5], samples.dull)
        field = Field(value)
        cell = (8, 8, 8, 8)
        self.assertEqual(self.refuse(BadValue, field.halve, cell, None).at, 1)
        field.halve(cell, fresh(value, cell))
        after = halved_grid(value, cell)
        self.refuse(TooMany, field.halve, (0, 0, 0, 4), None)
        self.check_same(field, after)
        field.join(cell)
        self.assertEqual(self.refuse(BadValue, field.halve, cell, None).at, 1)

    def test_lists(self):
        value = samples.worked()
        field = Field(value)
        cell, numbers = list(A), as_lists(fresh(value, A))
        kept = copy.deepcopy(numbers)
        self.assertEqual(field.halve(cell, numbers), (A,))
        self.assertEqual((cell, numbers), (list(A), kept))
        cell[0] = 99
        numbers[0][0][0] = 99
        numbers[1][1] = 99
        del numbers[2:]
        self.check_same(field, halved_grid(value, A))


class Join(Checks):

    def test_behind_halve_it_brings_the_grid_back(self):
        for size, halved in samples.SHAPES:
            value = grid(size, halved, samples.dull)
            if len(halved) < 6:
                for cell in [cell for cell in cells_of(value) if cell[3] > 2][::3]:
                    field = Field(value)
                    told = field.halve(cell, fresh(value, cell))
                    self.assertEqual(field.join(cell), told)
                    self.assertEqual(field.grid(), value)

    def test_cells_after_the_call_are_told(self):
        value = grid((2, 2, 1), (A, B), samples.dull)
        field = Field(value)
        self.assertEqual(field.join(A), (A, (0, 8, 0, 8), (8, 0, 0, 4), (8, 0, 4, 4), (8, 4, 0, 4), (8, 4, 4, 4),
                                         (8, 8, 0, 8)))
        self.check_same(field, joined_grid(value, A))
        self.assertEqual(field.join([8, 0, 0, 8]), tuple(samples.roots((2, 2, 1))))

    def test_all_else_is_as_before(self):
        kept = 0
        for (size, halved), cell in ((samples.DIAGONAL, A), (samples.TWICE, (4, 0, 0, 4)), (samples.ONCE, A),
                                     (samples.MIXED, (4, 4, 4, 4)), (samples.MIXED, (12, 12, 8, 4)),
                                     (samples.SIX_ROOTS, A), (samples.ONE_AND_FIVE, (0, 0, 0, 4))):
            value = grid(size, halved, samples.dull)
            field = Field(value)
            told = field.join(cell)
            after = joined_grid(value, cell)
            self.assertEqual(field.grid(), after)
            self.assertEqual(told, meeting(after, cell))
            self.assertTrue(is_plain(told))
            kept += self.check_told(value, after, told)
        self.assertGreater(kept, 30)

    def test_corners_that_others_have_stay(self):
        value = grid((2, 1, 1), (A, B), samples.dull)
        field = Field(value)
        field.join(B)
        self.assertEqual(field.grid(), grid(*samples.ONCE, samples.dull))
        self.assertEqual(dict(field.grid()[2])[(8, 4, 4)], samples.dull((8, 4, 4)))

    def test_numbers_are_forgotten(self):
        value = samples.worked()
        field = Field(value)
        field.halve(A, fresh(value, A))
        field.join(A)
        field.halve(A, fresh(value, A, samples.noise(3, 9)))
        self.check_same(field, halved_grid(value, A, samples.noise(3, 9)))

    def test_a_cell_with_halved_halves(self):
        value = grid(*samples.TWICE, samples.dull)
        field = Field(value)
        self.assertEqual(self.refuse(NoCell, field.join, A).cell, A)
        self.check_same(field, value)
        field.join((4, 0, 0, 4))
        self.assertEqual(field.join(A), (A, B))
        self.check_same(field, grid((2, 1, 1), (), samples.dull))

    def test_no_cell(self):
        value = grid(*samples.TWICE, samples.dull)
        field = Field(value)
        for wrong in (A, B, (0, 0, 0, 4), (4, 0, 0, 2), (0, 0, 0, 2), (0, 0, 0, 16), (16, 0, 0, 8), (4, 0, 0),
                      (4, 0, 0, 4, 4), (), [], None, True, 0, "4004", [[4], 0, 0, 4], (4, 0, 0, "4"), (4, False, 0, 4),
                      ((4, 0, 0, 4),), (4, 0, 0, 10 ** 30)):
            self.assertIs(self.refuse(NoCell, field.join, wrong).cell, wrong)
        self.check_same(field, value)

    def test_lists(self):
        field = Field(grid(*samples.TWICE, samples.dull))
        cell = [4, 0, 0, 4]
        field.join(cell)
        self.assertEqual(cell, [4, 0, 0, 4])
        self.assertEqual(field.grid()[1], (A,))


class Long(Checks):

    def step(self, source, field, value):
        """One call, right or wrong; the grid behind it."""
        turn = source.randint(0, 9)
        cells = cells_of(value)
        cell = source.choice([cell for cell in cells if cell[3] > source.choice((0, 2, 2))])
        if turn < 3:
            place, number = source.choice(value[2])[0], source.randint(-60, 60)
            self.assertEqual(field.change(place, number), having(value, place))
            return changed_grid(value, place, number)
        if turn < 5:
            numbers = list(fresh(value, cell))
            source.shuffle(numbers)
            if cell[3] == 2:
                self.refuse(NoCell, field.halve, cell, numbers)
                return value
            if len(value[1]) == 6:
                self.refuse(TooMany, field.halve, cell, numbers)
                return value
            self.assertEqual(field.halve(cell, numbers), meeting(value, cell))
            return halved_grid(value, cell)
        if turn < 6 and value[1]:
            cell = source.choice(value[1])
            if not set(samples.halves(cell)) <= set(cells):
                self.refuse(NoCell, field.join, cell)
                return value
            after = joined_grid(value, cell)
            self.assertEqual(field.join(cell), meeting(after, cell))
            return after
        self.refused(source, field, cell)
        return value

    def refused(self, source, field, cell):
        place = field.grid()[2][0][0]
        self.refuse(NoPoint, field.change, (1, 1, 1), 5)
        self.refuse(BadValue, field.change, place, source.choice((None, True, 10 ** 7)))
        self.refuse(NoCell, field.join, cell)
        self.refuse(BadValue, field.drawn, (2, 2))
        if cell[3] > 2 and len(field.grid()[1]) < 6:
            self.refuse(BadValue, field.halve, cell, fresh(field.grid(), cell)[1:])

    def test_many_calls(self):
        source = Random(21)
        for size in ((1, 1, 1), (2, 1, 1), (2, 2, 2)):
            value = grid(size, (), samples.dull)
            field = Field(as_lists(value))
            most = 0
            for turn in range(120):
                before = value
                value = self.step(source, field, value)
                self.assertEqual(field.grid(), value)
                most = max(most, len(value[1]))
                if turn % 12 == 0:
                    self.check_same(field, value)
                if turn % 3 == 0:
                    field.kind(pair(Fraction(source.randint(-90, 90), source.randint(1, 9))))
                self.assertTrue(field == Field(value))
                self.assertEqual(field == Field(before), before == value)
            self.assertEqual(most, 6)
            self.check_same(field, value)

    def test_later_changes_of_what_was_passed(self):
        given = as_lists(grid(*samples.TWICE, samples.dull))
        field = Field(given)
        given[0][0] = 1
        given[1].clear()
        given[2][0][1] = 99
        given[2][1][0][2] = 99
        del given[2][3:]
        self.check_same(field, grid(*samples.TWICE, samples.dull))

    def test_what_was_passed_stays(self):
        given = as_lists(grid(*samples.TWICE, samples.dull))
        kept = copy.deepcopy(given)
        field = Field(given)
        field.change((0, 0, 0), 44)
        field.join((4, 0, 0, 4))
        field.drawn([1, 2])
        field.kinds()
        self.assertEqual(given, kept)


if __name__ == "__main__":
    unittest.main()
