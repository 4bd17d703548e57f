"""The errors of ringloosed/errors.py: which is a base class of which."""

import unittest

from ringloosed.errors import BadValue, Down, LoosedError, Unknown


class ErrorsTest(unittest.TestCase):
    def test_the_base_class_is_a_value_error(self):
        self.assertTrue(issubclass(LoosedError, ValueError))

    def test_all_others_are_loosed_errors(self):
        for error in (BadValue, Down, Unknown):
            with self.subTest(error=error):
                self.assertTrue(issubclass(error, LoosedError))

    def test_none_of_the_others_is_a_base_class_of_another(self):
        errors = (BadValue, Down, Unknown)
        for error in errors:
            for other in errors:
                with self.subTest(error=error, other=other):
                    self.assertEqual(issubclass(error, other), error is other)

    def test_the_base_class_is_none_of_the_others(self):
        for error in (BadValue, Down, Unknown):
            with self.subTest(error=error):
                self.assertFalse(issubclass(LoosedError, error))

    def test_they_have_their_names(self):
        names = [error.__name__ for error in (LoosedError, BadValue, Down, Unknown)]
        self.assertEqual(names, ["LoosedError", "BadValue", "Down", "Unknown"])

    def test_each_is_raised_and_caught_as_itself_and_as_its_bases(self):
        for error in (BadValue, Down, Unknown):
            for caught in (error, LoosedError, ValueError):
                with self.subTest(error=error, caught=caught), self.assertRaises(caught):
                    raise error("some words")


if __name__ == "__main__":
    unittest.main()
