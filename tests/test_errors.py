import unittest

from levelkind import errors
from levelkind.errors import BadText, BadValue, LevelError, NoCell, NoPoint, TooMany


class Errors(unittest.TestCase):

    def test_base_class(self):
        self.assertEqual(LevelError.__bases__, (Exception,))

    def test_each_is_a_direct_subclass_with_no_other_base(self):
        for kind in (BadValue, BadText, NoPoint, NoCell, TooMany):
            self.assertEqual(kind.__bases__, (LevelError,), kind)
            self.assertEqual(kind.__module__, "levelkind.errors")

    def test_attributes_by_position(self):
        thing = [0, 0]
        self.assertEqual(BadValue(3).at, 3)
        self.assertEqual(BadText(0).at, 0)
        self.assertIs(NoPoint(thing).place, thing)
        self.assertIs(NoCell(thing).cell, thing)

    def test_attributes_by_name(self):
        self.assertEqual(BadValue(at=1).at, 1)
        self.assertEqual(BadText(at=2).at, 2)
        self.assertEqual(NoPoint(place=None).place, None)
        self.assertEqual(NoCell(cell="a").cell, "a")

    def test_too_many_has_no_argument(self):
        self.assertIsInstance(TooMany(), LevelError)
        with self.assertRaises(TypeError):
            TooMany(1)

    def test_they_are_caught_by_the_base_class(self):
        for error in (BadValue(0), BadText(0), NoPoint(0), NoCell(0), TooMany()):
            with self.assertRaises(LevelError) as caught:
                raise error
            self.assertIs(caught.exception, error)

    def test_nothing_else_is_an_error_here(self):
        names = {name for name, thing in vars(errors).items() if isinstance(thing, type)}
        self.assertEqual(names, {"LevelError", "BadValue", "BadText", "NoPoint", "NoCell", "TooMany"})


if __name__ == "__main__":
    unittest.main()
