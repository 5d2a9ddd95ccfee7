import unittest
from itertools import product

import samples
from levelkind.errors import BadValue
from levelkind.grids import cells, corners, is_grid
from samples import A, B, BOUND, as_lists, as_mixed, grid, is_plain


def zero(place):
    return 0


class IsGrid(unittest.TestCase):

    def test_all_samples_are_grids(self):
        for value in samples.grids():
            self.assertIs(is_grid(value), True)

    def test_lists_and_tuples_alike(self):
        for value in samples.grids():
            self.assertIs(is_grid(as_lists(value)), True)
            self.assertIs(is_grid(as_mixed(value)), True)
            self.assertIs(is_grid(as_mixed(value, 1)), True)

    def test_every_size(self):
        for size in product((1, 2), repeat=3):
            self.assertIs(is_grid(grid(size, (), zero)), True)

    def test_other_sizes(self):
        for size in ((0, 1, 1), (1, 3, 1), (1, 1, -1), (1, 1, 10 ** 30)):
            self.assertIs(is_grid((size, (), samples.flat()[2])), False)
            self.assertIs(is_grid((size, (), ())), False)
        big = grid((3, 1, 1), (), zero)
        self.assertIs(is_grid(big), False)
        for size in ((1, 1), (1, 1, 1, 1), (1,), ()):
            self.assertIs(is_grid((size, (), samples.flat()[2])), False)

    def test_none_to_six_roots(self):
        roots = samples.roots((2, 2, 2))
        for many in range(7):
            self.assertIs(is_grid(grid((2, 2, 2), roots[:many], zero)), True)
            self.assertIs(is_grid(grid((2, 2, 2), roots[8 - many:], zero)), True)

    def test_seven_are_too_many(self):
        roots = samples.roots((2, 2, 2))
        self.assertIs(is_grid(grid((2, 2, 2), roots[:7], zero)), False)
        self.assertIs(is_grid(grid((1, 1, 1), [A] + samples.halves(A)[:6], zero)), False)

    def test_none_to_five_halves_of_a_root(self):
        for many in range(6):
            self.assertIs(is_grid(grid((1, 1, 1), [A] + samples.halves(A)[:many], zero)), True)
            self.assertIs(is_grid(grid((1, 1, 1), [A] + samples.halves(A)[8 - many:], zero)), True)

    def test_halves_ascend_through_all_roots(self):
        # The least half here is not one of the first root's.
        found = [(0, 0, 0, 8), (0, 0, 8, 8), (0, 0, 4, 4), (0, 0, 8, 4), (0, 4, 0, 4), (4, 0, 8, 4)]
        self.assertIs(is_grid(grid((1, 1, 2), found, zero)), True)
        found[3], found[4] = found[4], found[3]
        self.assertIs(is_grid(grid((1, 1, 2), found, zero)), False)

    def same_numbers(self, halved):
        """Whether a grid is one with its halved cells replaced and its numbers kept."""
        size, right, numbers = grid((2, 1, 1), [A, B, (0, 0, 0, 4), (12, 4, 4, 4)], zero)
        self.assertIs(is_grid((size, right, numbers)), True)
        return is_grid((size, halved, numbers))

    def test_halved_cells_out_of_order(self):
        one, two = (0, 0, 0, 4), (12, 4, 4, 4)
        self.assertIs(self.same_numbers((A, B, one, two)), True)
        for halved in ((B, A, one, two), (A, B, two, one), (one, two, A, B), (A, one, B, two), (one, A, B, two)):
            self.assertIs(self.same_numbers(halved), False)

    def test_the_same_twice(self):
        one, two = (0, 0, 0, 4), (12, 4, 4, 4)
        for halved in ((A, A, B, one, two), (A, B, B, one, two), (A, B, one, one, two), (A, B, one, two, two)):
            self.assertIs(self.same_numbers(halved), False)

    def test_a_half_without_its_cell(self):
        self.assertIs(is_grid(((2, 1, 1), ((0, 0, 0, 4),), grid((2, 1, 1), (), zero)[2])), False)
        value = grid((2, 1, 1), (A,), zero)
        self.assertIs(is_grid(value), True)
        self.assertIs(is_grid((value[0], (A, (8, 0, 0, 4)), value[2])), False)

    def test_what_is_no_cell_to_be_halved(self):
        numbers = samples.flat()[2]
        for cell in ((8, 0, 0, 8), (0, 0, 8, 8), (-8, 0, 0, 8), (4, 0, 0, 8), (0, 0, 0, 16), (0, 0, 0, 0), (0, 0, 0, 2),
                     (0, 0, 0, 1), (0, 0, 0), (0, 0, 0, 8, 8), (0, 0, 0, True), (False, 0, 0, 8), "0008", None, 8):
            self.assertIs(is_grid(((1, 1, 1), (cell,), numbers)), False)
        value = grid((1, 1, 1), [A, (0, 0, 0, 4)], zero)
        for cell in ((2, 0, 0, 4), (0, 0, 0, 2), (0, 0, 8, 4), (4, 4, 4, 2), (0, 0, 0, True)):
            self.assertIs(is_grid((value[0], (A, cell), value[2])), False)
        self.assertIs(is_grid((value[0], (A, (0, 0, 0, 4), (0, 0, 0, 2)), value[2])), False)

    def test_numbers_at_and_beyond_the_bounds(self):
        for number, right in ((BOUND, True), (-BOUND, True), (BOUND + 1, False), (-BOUND - 1, False), (0, True),
                              (10 ** 30, False), (-10 ** 30, False), (True, False), (False, False), ("1", False),
                              (None, False), ((1,), False), ((1, 1), False)):
            self.assertIs(is_grid(grid((1, 1, 1), (), lambda place: number)), right)
            last = samples.flat()[2][:-1] + (((8, 8, 8), number),)
            self.assertIs(is_grid(((1, 1, 1), (), last)), right)

    def test_a_corner_missing_twice_or_none(self):
        for size, halved in (samples.BARE, samples.TWICE):
            _, _, numbers = grid(size, halved, zero)
            for k in range(len(numbers)):
                self.assertIs(is_grid((size, halved, numbers[:k] + numbers[k + 1:])), False)
                self.assertIs(is_grid((size, halved, numbers[:k] + numbers[k:k + 1] + numbers[k:])), False)
                x, y, z = numbers[k][0]
                for place in ((x, y, z + 1), (x - 1, y, z), (x, y), (x, y, z, 0), [True, y, z], None, "000"):
                    wrong = numbers[:k] + ((place, 0),) + numbers[k + 1:]
                    self.assertIs(is_grid((size, halved, wrong)), False)
            extra = tuple(sorted(numbers + (((2, 2, 6), 0),)))
            self.assertIs(is_grid((size, halved, extra)), False)

    def test_numbers_out_of_order(self):
        size, halved, numbers = samples.worked()
        self.assertIs(is_grid((size, halved, numbers[::-1])), False)
        self.assertIs(is_grid((size, halved, numbers[1:2] + numbers[:1] + numbers[2:])), False)

    def test_numbers_of_another_grid(self):
        size, halved = samples.ONCE
        self.assertIs(is_grid((size, halved, grid(size, (), zero)[2])), False)
        self.assertIs(is_grid((size, (), grid(size, halved, zero)[2])), False)
        self.assertIs(is_grid((size, (B,), grid(size, (A,), zero)[2])), False)

    def test_bools_are_no_integers_in_places(self):
        size, halved, numbers = samples.flat(1)
        wrong = (((False, 0, 0), 1),) + numbers[1:]
        self.assertIs(is_grid((size, halved, wrong)), False)
        self.assertIs(is_grid(((True, 1, 1), halved, numbers)), False)

    def test_everything_spoiled(self):
        for value in (samples.worked(), grid(*samples.TWICE, samples.dull)):
            for wrong in samples.spoiled(value):
                self.assertIs(is_grid(wrong), False)

    def test_values_of_any_kind(self):
        deep = 0
        for _ in range(19):
            deep = [deep]
        for value in (None, True, False, 0, 1, -10 ** 30, "", "grid", "size 1 1 1\n", (), [], ((), (), ()), deep,
                      (None, None, None), [[], [], []], [0] * 8000, ((1, 1, 1), (), None), ((1, 1, 1), None, ()),
                      (None, (), ()), ((1, 1, 1), "", ()), ((1, 1, 1), (), ""), ("111", (), ()), "abc"):
            self.assertIs(is_grid(value), False)


class Cells(unittest.TestCase):

    def test_root_cells(self):
        self.assertEqual(cells(samples.worked()), ((0, 0, 0, 8),))
        self.assertEqual(cells(grid((1, 2, 2), (), zero)),
                         ((0, 0, 0, 8), (0, 0, 8, 8), (0, 8, 0, 8), (0, 8, 8, 8)))
        for size in product((1, 2), repeat=3):
            self.assertEqual(cells(grid(size, (), zero)), tuple(samples.roots(size)))

    def test_halves_stand_for_the_halved_cell(self):
        self.assertEqual(cells(grid(*samples.ONCE, zero)),
                         ((0, 0, 0, 4), (0, 0, 4, 4), (0, 4, 0, 4), (0, 4, 4, 4), (4, 0, 0, 4), (4, 0, 4, 4),
                          (4, 4, 0, 4), (4, 4, 4, 4), (8, 0, 0, 8)))

    def test_halves_of_halves(self):
        found = cells(grid(*samples.TWICE, zero))
        self.assertEqual(found[4:13], ((4, 0, 0, 2), (4, 0, 2, 2), (4, 0, 4, 4), (4, 2, 0, 2), (4, 2, 2, 2),
                                       (4, 4, 0, 4), (4, 4, 4, 4), (6, 0, 0, 2), (6, 0, 2, 2)))
        self.assertEqual(len(found), 16)

    def test_every_shape(self):
        for size, halved in samples.SHAPES:
            value = grid(size, halved, zero)
            self.assertEqual(cells(value), tuple(samples.cells(size, halved)))
            self.assertEqual(cells(as_lists(value)), cells(value))

    def test_most_cells(self):
        self.assertEqual(len(cells(grid(*samples.SIX_ROOTS, zero))), 50)
        self.assertEqual(len(cells(grid(*samples.ONE_AND_FIVE, zero))), 43)


class Corners(unittest.TestCase):

    def test_of_one_cell(self):
        self.assertEqual(corners(samples.worked()), ((0, 0, 0), (0, 0, 8), (0, 8, 0), (0, 8, 8), (8, 0, 0), (8, 0, 8),
                                                     (8, 8, 0), (8, 8, 8)))

    def test_of_every_shape(self):
        for size, halved in samples.SHAPES:
            value = grid(size, halved, samples.dull)
            self.assertEqual(corners(value), tuple(samples.corners(size, halved)))
            self.assertEqual(corners(as_mixed(value)), corners(value))

    def test_counts(self):
        self.assertEqual(len(corners(grid((2, 2, 2), (), zero))), 27)
        self.assertEqual(len(corners(grid((1, 1, 1), (A,), zero))), 27)
        self.assertEqual(len(corners(grid(*samples.ONCE, zero))), 31)


class Both(unittest.TestCase):

    def test_wrong_grids(self):
        for function in (cells, corners):
            for wrong in (None, True, 0, "abc", (), [[], [], []], samples.worked()[:2], ((1, 1, 1), (), ())):
                with self.assertRaises(BadValue) as caught:
                    function(wrong)
                self.assertEqual(caught.exception.at, 0)

    def test_plain_tuples(self):
        for value in samples.grids():
            for function in (cells, corners):
                self.assertTrue(is_plain(function(value)))
                self.assertTrue(is_plain(function(as_lists(value))))

    def test_arguments_by_name(self):
        value = samples.worked()
        self.assertEqual(cells(grid=value), cells(value))
        self.assertEqual(corners(grid=value), corners(value))
        self.assertIs(is_grid(value=value), True)


if __name__ == "__main__":
    unittest.main()
