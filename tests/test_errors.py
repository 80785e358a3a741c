import unittest

from evencolumns import errors
from evencolumns.blocks import widths
from evencolumns.errors import ColumnError
from evencolumns.notes import read
from evencolumns.setting import cut
from evencolumns.sheet import Sheet

NAMES = ("NoPage", "NoSpacing", "NoCut", "OnlyLine", "NoLine", "NoColumn", "Full", "NoText")

# A call for each refusal that brings it about.
CALLS = {
    "NoPage": lambda: widths([], 1, 0),
    "NoSpacing": lambda: widths([["a"]], 0, 0),
    "NoCut": lambda: cut("ab", [2]),
    "OnlyLine": lambda: Sheet([["a"]], 1, 0).take_out(0),
    "NoLine": lambda: Sheet([["a"]], 1, 0).take_out(1),
    "NoColumn": lambda: Sheet([["a"]], 1, 0).put(0, 1, "b"),
    "Full": lambda: Sheet([["a"]] * 20, 1, 0).put_in(0, ["b"]),
    "NoText": lambda: read("a b"),
}


class ErrorsTest(unittest.TestCase):
    def test_column_error_stands_straight_under_value_error(self):
        self.assertEqual(ColumnError.__bases__, (ValueError,))

    def test_each_class_stands_straight_under_column_error(self):
        for name in NAMES:
            with self.subTest(name=name):
                self.assertEqual(getattr(errors, name).__bases__, (ColumnError,))

    def test_each_class_bears_its_name(self):
        for name in NAMES + ("ColumnError",):
            with self.subTest(name=name):
                self.assertEqual(getattr(errors, name).__name__, name)
                self.assertEqual(getattr(errors, name).__module__, "evencolumns.errors")

    def test_none_is_the_kind_of_another(self):
        for name in NAMES:
            for other in NAMES:
                if name != other:
                    with self.subTest(name=name, other=other):
                        self.assertFalse(issubclass(getattr(errors, name), getattr(errors, other)))

    def test_each_is_raised_and_taken_as_any_refusal(self):
        for name in NAMES:
            with self.subTest(name=name):
                with self.assertRaises(ColumnError):
                    raise getattr(errors, name)("words")

    def test_each_is_brought_about_by_a_call(self):
        self.assertEqual(sorted(CALLS), sorted(NAMES))
        for name, call in CALLS.items():
            with self.subTest(name=name):
                with self.assertRaises(ColumnError) as caught:
                    call()
                self.assertIs(type(caught.exception), getattr(errors, name))
                self.assertIsInstance(caught.exception, ValueError)


if __name__ == "__main__":
    unittest.main()
