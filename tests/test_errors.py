import unittest

from evencolumns import errors
from evencolumns.errors import ColumnError

NAMES = ("NoPage", "NoSpacing", "NoCut", "OnlyLine", "NoLine", "NoColumn", "Full", "NoText")


class ErrorsTest(unittest.TestCase):
    def test_column_error_stands_straight_under_value_error(self):
        self.assertEqual(ColumnError.__bases__, (ValueError,))

    def test_each_class_stands_straight_under_column_error(self):
        for name in NAMES:
            with self.subTest(name=name):
                self.assertEqual(getattr(errors, name).__bases__, (ColumnError,))

    def test_each_class_bears_its_name(self):
        for name in NAMES + ("ColumnError",):
            with self.subTest(name=name):
                self.assertEqual(getattr(errors, name).__name__, name)
                self.assertEqual(getattr(errors, name).__module__, "evencolumns.errors")

    def test_none_is_the_kind_of_another(self):
        for name in NAMES:
            for other in NAMES:
                if name != other:
                    with self.subTest(name=name, other=other):
                        self.assertFalse(issubclass(getattr(errors, name), getattr(errors, other)))

    def test_each_is_raised_and_taken_as_any_refusal(self):
        for name in NAMES:
            with self.subTest(name=name):
                with self.assertRaises(ColumnError):
                    raise getattr(errors, name)("words")


if __name__ == "__main__":
    unittest.main()
