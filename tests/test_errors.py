"""Promise [0.4]: the errors and where they stand."""

import inspect
import unittest

from smallwidth import errors

NAMES = (
    "BadGraph", "TooLarge", "BadText", "BadTerm", "BadBags", "BadBramble",
    "NoHaven", "BadPosition", "BadValues", "BadFormula", "TooMany", "BadWidth",
    "NoSuchClass",
)


class ErrorsTest(unittest.TestCase):
    def test_base_class_is_a_value_error(self):
        self.assertEqual(errors.WidthError.__bases__, (ValueError,))

    def test_each_error_is_directly_below_the_base_class(self):
        for name in NAMES:
            with self.subTest(name):
                self.assertEqual(getattr(errors, name).__bases__, (errors.WidthError,))

    def test_errors_are_defined_in_their_file(self):
        for name in ("WidthError",) + NAMES:
            with self.subTest(name):
                self.assertEqual(getattr(errors, name).__module__, "smallwidth.errors")

    def test_there_are_no_other_classes(self):
        found = [name for name, _ in inspect.getmembers(errors, inspect.isclass)]
        self.assertEqual(sorted(found), sorted(("WidthError",) + NAMES))

    def test_text_error_tells_the_line(self):
        with self.assertRaises(errors.WidthError) as caught:
            raise errors.BadText(3)
        self.assertEqual(caught.exception.line, 3)

    def test_term_error_tells_the_index(self):
        with self.assertRaises(errors.WidthError) as caught:
            raise errors.BadTerm(-1)
        self.assertEqual(caught.exception.index, -1)


if __name__ == "__main__":
    unittest.main()
