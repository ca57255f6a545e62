"""[0.2] and the interface of fewfolds/errors.py."""

import unittest

import fewfolds.errors
from support import ODD_VALUES

PARAMETERS = {
    "BadTable": "thing", "OtherTable": "thing", "BadRow": "thing", "BadNumber": "thing", "BadPoly": "thing",
    "BadPrime": "thing", "BadNumbers": "thing", "BadWord": "thing", "BadText": "at", "Lost": "row",
}


class Errors(unittest.TestCase):
    def test_bases(self):
        self.assertEqual(fewfolds.errors.TableError.__bases__, (Exception,))
        for name in PARAMETERS:
            self.assertEqual(getattr(fewfolds.errors, name).__bases__, (fewfolds.errors.TableError,), name)

    def test_defined_there_and_no_others(self):
        found = {name for name, worth in vars(fewfolds.errors).items() if isinstance(worth, type)}
        self.assertEqual(found, set(PARAMETERS) | {"TableError"})
        for name in found:
            self.assertEqual(getattr(fewfolds.errors, name).__module__, "fewfolds.errors")

    def test_attribute_by_position_and_by_name(self):
        for name, parameter in PARAMETERS.items():
            made = getattr(fewfolds.errors, name)
            self.assertIn("__init__", vars(made))
            for value in ODD_VALUES:
                self.assertEqual(vars(made(value)), {parameter: value})
                self.assertIs(getattr(made(value), parameter), value)
                self.assertIs(getattr(made(**{parameter: value}), parameter), value)

    def test_just_one_parameter(self):
        for name in PARAMETERS:
            made = getattr(fewfolds.errors, name)
            self.assertRaises(TypeError, made)
            self.assertRaises(TypeError, made, 1, 2)
            self.assertRaises(TypeError, made, other=1)

    def test_raised_and_caught_as_the_base(self):
        for name, parameter in PARAMETERS.items():
            with self.assertRaises(fewfolds.errors.TableError) as caught:
                raise getattr(fewfolds.errors, name)((1, 2))
            self.assertEqual(getattr(caught.exception, parameter), (1, 2))


if __name__ == "__main__":
    unittest.main()
