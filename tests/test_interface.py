import copy
import inspect
import unittest

import samples
from levelkind import fields, grids, kinds, meshes, surfaces, texts, ways
from levelkind.errors import BadValue, LevelError, NoCell, NoPoint
from samples import as_lists, as_mixed, grid, is_plain

HALF = ((1, 2), (3, 1), (4, 1))
CUT = ((0, 0, 0), (4, 4, 4))

# Each function with arguments that it takes for the worked example, by the names of its parameters.
CALLS = (
    (grids.cells, {}),
    (grids.corners, {}),
    (meshes.squares, {"cell": (0, 0, 0, 8)}),
    (meshes.points, {}),
    (meshes.tetrahedra, {}),
    (meshes.neighbours, {"place": (0, 4, 4)}),
    (meshes.height, {"place": HALF}),
    (surfaces.drawn, {"level": (3, 1)}),
    (surfaces.place_of, {"level": (3, 1), "value": CUT}),
    (surfaces.room, {"level": (3, 1)}),
    (surfaces.sheets, {"level": (3, 1)}),
    (kinds.kind, {"level": (3, 1)}),
    (kinds.kind_below, {"level": (3, 1)}),
    (kinds.kinds, {}),
    (kinds.around, {"place": (4, 4, 4)}),
    (kinds.turning, {}),
    (ways.joined, {"one": (0, 0, 0), "other": (8, 8, 8)}),
    (ways.wall, {"one": (0, 0, 0), "other": (8, 8, 8)}),
    (ways.wall_holds, {"one": (0, 0, 0), "other": (8, 8, 8), "number": (2, 1), "value": ((0, 0, 0),)}),
    (texts.printed, {}),
)

# The arguments whose errors keep what was passed; all others are told by their position.
KEPT = {
    (meshes.squares, 1): (NoCell, "cell"),
    (meshes.neighbours, 1): (NoPoint, "place"),
    (kinds.around, 1): (NoPoint, "place"),
    (ways.joined, 1): (NoPoint, "place"),
    (ways.joined, 2): (NoPoint, "place"),
    (ways.wall, 1): (NoPoint, "place"),
    (ways.wall, 2): (NoPoint, "place"),
    (ways.wall_holds, 1): (NoPoint, "place"),
    (ways.wall_holds, 2): (NoPoint, "place"),
}
# No error is told for this one.
ANY = (ways.wall_holds, 4)

NO_GRIDS = (None, True, False, 0, 1, "", "grid", (), [], ((1, 1, 1), (), ()), [[], [], []], samples.worked()[:2],
            samples.worked() + ((),), [samples.worked()])


def taken(function, arguments):
    """What a call returns, or the kind of its error and what that keeps."""
    try:
        return function(*arguments)
    except LevelError as error:
        return (type(error), vars(error))


def is_told(found):
    """Whether it is what a function returns: plain tuples, None for no bound, a string or whether."""
    if isinstance(found, tuple) and not is_plain(found):
        return type(found) is tuple and all(part is None or is_told(part) for part in found)
    return is_plain(found) or type(found) in (bool, str)


class Interface(unittest.TestCase):

    def test_names_and_files(self):
        for function, more in CALLS:
            self.assertTrue(inspect.isfunction(function))
            self.assertEqual(list(inspect.signature(function).parameters), ["grid"] + list(more))
        self.assertEqual(list(inspect.signature(grids.is_grid).parameters), ["value"])
        self.assertEqual(list(inspect.signature(texts.parse).parameters), ["text"])
        for module, names in ((grids, ("is_grid", "cells", "corners")),
                              (meshes, ("squares", "points", "tetrahedra", "neighbours", "height")),
                              (surfaces, ("drawn", "place_of", "room", "sheets")),
                              (kinds, ("kind", "kind_below", "kinds", "around", "turning")),
                              (ways, ("joined", "wall", "wall_holds")),
                              (fields, ("Field",)),
                              (texts, ("printed", "parse"))):
            for name in names:
                self.assertEqual(getattr(module, name).__module__, module.__name__)

    def test_by_position_and_by_name(self):
        value = samples.worked()
        for function, more in CALLS:
            expected = function(value, *more.values())
            self.assertEqual(function(grid=value, **more), expected)
            self.assertTrue(is_told(expected))
            self.assertEqual(function(value, *more.values()), expected)

    def test_lists_and_tuples_alike(self):
        for turn, change in ((0, as_lists), (1, as_mixed)):
            for function, more in CALLS:
                expected = function(samples.worked(), *more.values())
                given = [change(part) for part in [samples.worked()] + list(more.values())]
                found = function(*given)
                self.assertEqual(found, expected)
                self.assertTrue(is_told(found))

    def test_nothing_that_is_passed_is_changed(self):
        for function, more in CALLS:
            given = [as_lists(part) for part in [samples.worked()] + list(more.values())]
            before = copy.deepcopy(given)
            function(*given)
            self.assertEqual(given, before)
            for k in range(len(given)):
                spoiled = given[:k] + [[[1], "a", [None]]] + given[k + 1:]
                kept = copy.deepcopy(spoiled)
                if (function, k) == ANY:
                    self.assertIs(function(*spoiled), False)
                else:
                    self.assertEqual(len(taken(function, spoiled)), 2)
                self.assertEqual(spoiled, kept)

    def test_later_changes_have_no_effect(self):
        for function, more in CALLS:
            given = [as_lists(part) for part in [samples.worked()] + list(more.values())]
            found = function(*given)
            expected = copy.deepcopy(found)
            given[0][2][0][0][0] = 99
            given[0][2].clear()
            self.assertEqual(found, expected)

    def test_wrong_grids(self):
        for function, more in CALLS:
            for wrong in NO_GRIDS:
                with self.assertRaises(BadValue) as caught:
                    function(wrong, *more.values())
                self.assertEqual(caught.exception.at, 0)

    def test_spoiled_grids(self):
        for k, wrong in enumerate(samples.spoiled(samples.worked())):
            function, more = CALLS[k % len(CALLS)]
            self.assertEqual(taken(function, [wrong] + list(more.values())), (BadValue, {"at": 0}))

    def check_error(self, function, at, wrong, found):
        kind, kept = found
        if (function, at) in KEPT:
            expected, name = KEPT[(function, at)]
            self.assertIs(kind, expected)
            self.assertEqual(list(kept), [name])
            self.assertIs(kept[name], wrong)
        else:
            self.assertEqual((kind, kept), (BadValue, {"at": at}))

    def test_each_further_argument_spoiled(self):
        value = samples.worked()
        for function, more in CALLS:
            good = [value] + list(more.values())
            for k in range(1, len(good)):
                for wrong in samples.spoiled(good[k]):
                    found = taken(function, good[:k] + [wrong] + good[k + 1:])
                    if (function, k) == ANY:
                        self.assertIs(found, False)
                    else:
                        self.check_error(function, k, wrong, found)

    def test_the_first_wrong_argument_is_told(self):
        value = samples.worked()
        for function, more in CALLS:
            good = [value] + list(more.values())
            for k in range(len(good)):
                for wrong in (None, "a", True, [[]]):
                    given = good[:k] + [wrong] * (len(good) - k)
                    if (function, k) != ANY:
                        self.check_error(function, k, wrong, taken(function, given))

    def test_values_of_any_kind(self):
        value = samples.worked()
        deep = []
        for _ in range(19):
            deep = [deep]
        odd = (None, True, False, 10 ** 30, -10 ** 30, "", "a" * 20000, "1\n2", [], (), deep, [0] * 8000, [[1, 1]] * 4,
               ((10 ** 30, 1), (1, 1), (1, 1)), ((10 ** 30,) * 3,) * 2, (10 ** 30,) * 4, (10 ** 30,) * 3)
        for function, more in CALLS:
            good = [value] + list(more.values())
            for k in range(len(good)):
                for wrong in odd:
                    found = taken(function, good[:k] + [wrong] + good[k + 1:])
                    if (function, k) == ANY:
                        self.assertIs(found, False)
                    else:
                        self.check_error(function, k, wrong, found)

    def test_what_is_returned_may_be_passed(self):
        value = grid(*samples.ONCE, samples.dull)
        for cell in grids.cells(value):
            for square in meshes.squares(value, cell):
                self.assertEqual(taken(meshes.squares, (value, square)), (NoCell, {"cell": square}))
        for place, number in meshes.points(value):
            spot = tuple((part, 1) for part in place)
            self.assertEqual(meshes.height(value, spot), number)
            self.assertEqual(taken(meshes.height, (value, place)), (BadValue, {"at": 1}))
            self.assertTrue(is_plain(surfaces.drawn(value, number)))
            self.assertTrue(is_plain(kinds.kind(value, number)))
            self.assertTrue(is_plain(kinds.around(value, place)))
        number, way = ways.joined(value, (0, 0, 0), (16, 8, 8))
        self.assertIs(ways.wall_holds(value, (0, 0, 0), (16, 8, 8), number, way), False)
        for level in surfaces.place_of(samples.worked(), (3000001, 999983), CUT):
            self.assertTrue(is_plain(kinds.kind(value, level)))
        self.assertEqual(texts.parse(texts.printed(fields.Field(value).grid())), value)
        for near in meshes.neighbours(value, (8, 4, 4)):
            self.assertIn((8, 4, 4), meshes.neighbours(value, near))

    def test_equal_calls_return_equal_values(self):
        value = grid(*samples.MIXED, samples.dull)
        for function, more in ((surfaces.drawn, ((1, 2),)), (surfaces.sheets, ((1, 2),)), (surfaces.room, ((1, 2),)),
                               (meshes.points, ()), (meshes.tetrahedra, ()), (kinds.kinds, ()), (kinds.turning, ()),
                               (ways.joined, ((0, 0, 0), (16, 16, 16))), (ways.wall, ((0, 0, 0), (16, 16, 16)))):
            self.assertEqual(function(value, *more), function(value, *more))


if __name__ == "__main__":
    unittest.main()
