"""Point 14: the errors."""

import unittest

from tellwords import errors
from tests.helpers import ODD_VALUES

ARGUMENTS = {
    "BadBook": "error",
    "Ringed": "ring",
    "TooLong": "index",
    "BadText": "place",
    "NoWord": "value",
    "BadTellers": "value",
    "Loosened": "worlds",
    "NoRule": "index",
}
WITHOUT = ("WordError", "Full", "NothingToUndo", "NothingToRedo")


class TestErrors(unittest.TestCase):
    def test_bases(self):
        self.assertEqual(errors.WordError.__bases__, (ValueError,))
        self.assertEqual(errors.NoRule.__bases__, (LookupError,))
        for name in (*ARGUMENTS, *WITHOUT):
            if name not in ("WordError", "NoRule"):
                with self.subTest(name):
                    self.assertEqual(getattr(errors, name).__bases__, (errors.WordError,))

    def test_twelve_unlike_classes(self):
        self.assertEqual(len({getattr(errors, name) for name in (*ARGUMENTS, *WITHOUT)}), 12)

    def test_arguments_by_position_and_by_name(self):
        for name, argument in ARGUMENTS.items():
            made = getattr(errors, name)
            for value in (*ODD_VALUES, (0, "formula"), ("A", "B"), (((), ((),)), ((), (("A",),)))):
                with self.subTest(name, value=value):
                    self.assertIs(getattr(made(value), argument), value)
                    self.assertIs(getattr(made(**{argument: value}), argument), value)

    def test_arguments_are_wanted(self):
        for name in ARGUMENTS:
            with self.subTest(name), self.assertRaises(TypeError):
                getattr(errors, name)()

    def test_without_arguments(self):
        for name in WITHOUT:
            with self.subTest(name):
                self.assertIsInstance(getattr(errors, name)(), ValueError)

    def test_raised_and_caught(self):
        for name in (*ARGUMENTS, *WITHOUT):
            given = ((0, "kinds"),) if name in ARGUMENTS else ()
            base = LookupError if name == "NoRule" else errors.WordError
            with self.subTest(name), self.assertRaises(base) as caught:
                raise getattr(errors, name)(*given)
            self.assertIs(type(caught.exception), getattr(errors, name))

    def test_an_error_is_not_a_word_error_and_a_lookup_error_at_once(self):
        self.assertNotIsInstance(errors.NoRule(1), ValueError)
        self.assertNotIsInstance(errors.BadBook(1), LookupError)


if __name__ == "__main__":
    unittest.main()
