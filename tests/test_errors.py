"""The interface of shadeseats/errors.py."""

import unittest

from shadeseats import errors

# Each class with its values, in the order in which the interface names them.
VALUES = {
    "BadFloor": ("part", "number"),
    "BadSun": ("number",),
    "BadFolk": ("number",),
    "BadTold": ("number",),
    "BadPaper": ("number",),
    "BadDeed": ("number",),
    "BadCount": (),
    "BadRule": (),
    "InSun": ("beat",),
    "Halted": ("number", "done"),
    "BadText": ("row",),
}


class Errors(unittest.TestCase):
    def test_shade_error_is_a_value_error(self):
        self.assertTrue(issubclass(errors.ShadeError, ValueError))
        self.assertEqual(errors.ShadeError.__module__, "shadeseats.errors")

    def test_each_is_a_shade_error_defined_here(self):
        for name in VALUES:
            kind = getattr(errors, name)
            self.assertTrue(issubclass(kind, errors.ShadeError), name)
            self.assertEqual(kind.__module__, "shadeseats.errors")
            self.assertEqual(kind.__name__, name)

    def test_none_is_under_another_one(self):
        for name in VALUES:
            kind = getattr(errors, name)
            self.assertIsNot(kind, errors.ShadeError)
            for other in VALUES:
                if other != name:
                    self.assertFalse(issubclass(kind, getattr(errors, other)), (name, other))

    def test_values_are_set_on_each_object(self):
        for name, values in VALUES.items():
            things = list(range(3, 3 + len(values)))
            made = getattr(errors, name)(*things)
            for value, thing in zip(values, things):
                self.assertEqual(getattr(made, value), thing, (name, value))

    def test_values_of_two_objects_are_apart(self):
        for name, values in VALUES.items():
            if values:
                kind = getattr(errors, name)
                one = kind(*[1 for value in values])
                other = kind(*[2 for value in values])
                for value in values:
                    self.assertEqual((getattr(one, value), getattr(other, value)), (1, 2))

    def test_each_can_be_caught_as_shade_error(self):
        for name, values in VALUES.items():
            with self.assertRaises(errors.ShadeError):
                raise getattr(errors, name)(*[0 for value in values])


if __name__ == "__main__":
    unittest.main()
