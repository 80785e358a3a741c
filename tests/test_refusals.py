import unittest

from evencolumns.blocks import blocks, forced, widths
from evencolumns.errors import NoPage, NoSpacing
from evencolumns.notes import shown
from evencolumns.setting import set_out, starts
from evencolumns.sheet import Sheet

SPACED = (widths, forced, set_out, starts, Sheet)

NO_PAGES = {
    "no lines": [],
    "21 lines": [["a"] for number in range(21)],
    "40 lines": [["a", "b"] for number in range(40)],
    "a line of no cells": [[]],
    "a first line of no cells": [[], ["a"]],
    "a last line of no cells": [["a"], []],
    "all lines of no cells": [[], []],
    "a line of 7 cells": [["a"] * 7],
    "a later line of 7 cells": [["a"], ["a"] * 7, ["a"]],
    "a line of 20 cells": [["a"] * 20],
    "a closed cell of 9 signs": [["abcdefghi", "b"]],
    "an open cell of 9 signs": [["a", "abcdefghi"]],
    "a cell of 20 signs": [["a" * 20]],
    "a cell that is a blank": [[" "]],
    "a blank ahead of a sign": [[" a", "b"]],
    "a blank between signs": [["a b", "b"]],
    "a blank behind a sign": [["a", "b "]],
    "a cell that is a tab": [["\t"]],
    "a tab between signs": [["a", "a\tb", "c"]],
    "a cell that is a line end": [["\n"]],
    "a line end behind a sign": [["a", "b\n"]],
    "a line end ahead of a sign": [["\na", "b"]],
    "only the last cell of the last line is none": [["a", "b"]] * 19 + [["a", "b", "c", "d", "e", " "]],
}

PAGES = {
    "1 line": [["a"]],
    "20 lines": [["a", "b"] for number in range(20)],
    "1 cell": [["abc"]],
    "6 cells": [["a"] * 6],
    "20 lines of 6 cells of 8 signs": [["abcdefgh"] * 6 for number in range(20)],
    "cells of 0 signs": [["", ""], [""]],
    "cells of 8 signs": [["abcdefgh", "ABCDEFGH"]],
    "the first sign": [["!", "!!!!!!!!"]],
    "the last sign": [["~", "~~~~~~~~"]],
}

NO_SPACINGS = [
    (0, 0), (0, 12), (5, 0), (5, 12), (-1, 5), (6, 5),
    (1, -1), (4, -1), (1, 13), (4, 13), (2, -2), (2, 14),
    (-1000000, 5), (1000000, 5), (2, -1000000), (2, 1000000),
    (0, -1), (5, 13), (-10 ** 30, 10 ** 30), (10 ** 30, -10 ** 30),
]

SPACINGS = [(gap, least) for gap in range(1, 5) for least in range(0, 13)]


class NoPageTest(unittest.TestCase):
    def test_refused_by_each_function(self):
        for words, page in NO_PAGES.items():
            with self.subTest(words):
                self.assertRaises(NoPage, blocks, page)
                self.assertRaises(NoPage, shown, page)
                for call in SPACED:
                    self.assertRaises(NoPage, call, page, 1, 0)

    def test_edges_are_taken_by_each_function(self):
        for words, page in PAGES.items():
            with self.subTest(words):
                self.assertEqual(len(blocks(page)), len(forced(page, 1, 0)))
                self.assertEqual(len(widths(page, 1, 0)), len(page))
                self.assertEqual(len(set_out(page, 1, 0)), len(page))
                self.assertEqual(len(starts(page, 1, 0)), len(page))
                self.assertEqual(Sheet(page, 1, 0).page(), page)
                self.assertEqual(len(shown(page).split("\n")), len(page))

    def test_each_sign_of_a_cell_is_taken(self):
        for code in range(ord("!"), ord("~") + 1):
            sign = chr(code)
            if sign != "%":
                self.assertEqual(widths([[sign, sign]], 1, 0), [[2]], sign)
                self.assertEqual(set_out([[sign, sign]], 1, 0), [sign + " " + sign], sign)
                self.assertEqual(shown([[sign, sign]]), sign + "\t" + sign, sign)

    def test_each_other_sign_is_refused_at_each_place(self):
        for sign in (" ", "\t", "\n"):
            for place in range(8):
                cell = "a" * place + sign + "a" * (7 - place)
                self.assertRaises(NoPage, blocks, [[cell, "b"]])
                self.assertRaises(NoPage, blocks, [["b", cell]])


class NoSpacingTest(unittest.TestCase):
    def test_refused_by_each_function(self):
        for gap, least in NO_SPACINGS:
            with self.subTest(gap=gap, least=least):
                for call in SPACED:
                    self.assertRaises(NoSpacing, call, [["a", "b"]], gap, least)

    def test_refused_for_a_page_of_no_block_too(self):
        for gap, least in NO_SPACINGS:
            with self.subTest(gap=gap, least=least):
                for call in SPACED:
                    self.assertRaises(NoSpacing, call, [["a"]], gap, least)

    def test_every_spacing_is_taken(self):
        for gap, least in SPACINGS:
            with self.subTest(gap=gap, least=least):
                width = max(3 + gap, least)
                self.assertEqual(widths([["abc", "d"]], gap, least), [[width]])
                self.assertEqual(forced([["abc", "d"]], gap, least), [(width, 0 if 3 + gap >= least else None)])
                self.assertEqual(set_out([["abc", "d"]], gap, least), ["abc" + " " * (width - 3) + "d"])
                self.assertEqual(starts([["abc", "d"]], gap, least), [[0, width]])
                self.assertEqual(Sheet([["abc", "d"]], gap, least).lines(), set_out([["abc", "d"]], gap, least))

    def test_no_page_goes_ahead_of_no_spacing(self):
        for words, page in NO_PAGES.items():
            for gap, least in NO_SPACINGS:
                with self.subTest(words, gap=gap, least=least):
                    for call in SPACED:
                        self.assertRaises(NoPage, call, page, gap, least)


if __name__ == "__main__":
    unittest.main()
