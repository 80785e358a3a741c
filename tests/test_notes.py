import inspect
import unittest

from evencolumns.errors import NoText
from evencolumns.notes import read, shown

WRITTEN = {
    "one cell": ([["a"]], "a"),
    "one empty cell": ([[""]], ""),
    "two empty cells": ([["", ""]], "\t"),
    "six empty cells": ([[""] * 6], "\t\t\t\t\t"),
    "two lines of an empty cell": ([[""], [""]], "\n"),
    "20 lines of an empty cell": ([[""] for number in range(20)], "\n" * 19),
    "an empty cell first": ([["", "a"]], "\ta"),
    "an empty cell last": ([["a", ""]], "a\t"),
    "an empty cell between": ([["a", "", "b"]], "a\t\tb"),
    "an empty line first": ([[""], ["a"]], "\na"),
    "an empty line last": ([["a"], [""]], "a\n"),
    "an empty line between": ([["a"], [""], ["b"]], "a\n\nb"),
    "lines of several cells": ([["a", "bb", "c"], ["dddd", "e"], ["f"]], "a\tbb\tc\ndddd\te\nf"),
    "six cells": ([["a", "b", "c", "d", "e", "f"]], "a\tb\tc\td\te\tf"),
    "eight signs": ([["abcdefgh", "ABCDEFGH"]], "abcdefgh\tABCDEFGH"),
    "the first and the last sign": ([["!", "~"]], "!\t~"),
    "20 lines": ([["a", "b"] for number in range(20)], "\n".join(["a\tb"] * 20)),
    "the longest page": ([["abcdefgh"] * 6 for number in range(20)], "\n".join(["\t".join(["abcdefgh"] * 6)] * 20)),
}

NO_TEXTS = {
    "seven cells": "a\tb\tc\td\te\tf\tg",
    "seven empty cells": "\t\t\t\t\t\t",
    "seven cells in a later line": "a\n\t\t\t\t\t\t\nb",
    "nine signs": "abcdefghi",
    "nine signs in a later cell": "a\tabcdefghi\tb",
    "nine signs in the last line": "a\nb\nabcdefghi",
    "21 lines": "\n".join(["a"] * 21),
    "21 empty lines": "\n" * 20,
    "20 lines and a line end": "a\n" * 20,
    "a blank": " ",
    "a blank ahead": " a",
    "a blank behind": "a ",
    "a blank between": "a b",
    "a blank in an empty cell": "a\t \tb",
    "a blank behind the last line": "a\nb\n ",
    "2000 signs": "a" * 2000,
    "2000 tabs": "\t" * 2000,
    "2000 line ends": "\n" * 2000,
    "more than 2000 signs": "a\t" * 1100,
}


class ShownTest(unittest.TestCase):
    def test_arguments(self):
        self.assertEqual(list(inspect.signature(shown).parameters), ["page"])

    def test_written(self):
        for words, (page, text) in WRITTEN.items():
            with self.subTest(words):
                self.assertEqual(shown(page), text)
                self.assertIs(type(shown(page)), str)


class ReadTest(unittest.TestCase):
    def test_arguments(self):
        self.assertEqual(list(inspect.signature(read).parameters), ["text"])

    def test_read(self):
        for words, (page, text) in WRITTEN.items():
            with self.subTest(words):
                self.assertEqual(read(text), page)

    def test_what_is_written_is_read_to_the_same_page(self):
        for words, (page, text) in WRITTEN.items():
            with self.subTest(words):
                self.assertEqual(read(shown(page)), page)
                self.assertEqual(shown(read(text)), text)

    def test_each_sign_of_a_cell_is_read(self):
        for code in range(ord("!"), ord("~") + 1):
            sign = chr(code)
            if sign != "%":
                self.assertEqual(read(sign + "\t" + sign), [[sign, sign]])

    def test_refused(self):
        for words, text in NO_TEXTS.items():
            with self.subTest(words):
                with self.assertRaises(NoText) as caught:
                    read(text)
                self.assertIs(type(caught.exception), NoText)

    def test_line_end_at_the_end_is_a_line_of_one_empty_cell(self):
        self.assertEqual(read("a\tb\n"), [["a", "b"], [""]])
        self.assertEqual(read("a\n" * 19), [["a"] for number in range(19)] + [[""]])

    def test_told_lists_may_be_changed(self):
        text = "a\tb\na\tb\n\n"
        told = read(text)
        told[0][0] = "x"
        told[1].append("y")
        told[2].clear()
        self.assertEqual(told, [["x", "b"], ["a", "b", "y"], [], [""]])
        told.clear()
        self.assertEqual(read(text), [["a", "b"], ["a", "b"], [""], [""]])

    def test_no_two_told_lists_are_one(self):
        first, second = read("a\na\n\n"), read("a\na\n\n")
        lists = [first, second] + first + second
        self.assertEqual(len({id(one) for one in lists}), len(lists))

    def test_empty_text_is_told_anew(self):
        read("")[0].append("more")
        read("").append(["more"])
        self.assertEqual(read(""), [[""]])

    def test_kinds(self):
        told = read("a\t\n")
        self.assertIs(type(told), list)
        for line in told:
            self.assertIs(type(line), list)
            for cell in line:
                self.assertIs(type(cell), str)


if __name__ == "__main__":
    unittest.main()
