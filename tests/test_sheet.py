import inspect
import unittest

from evencolumns.errors import Full, NoColumn, NoLine, NoPage, OnlyLine
from evencolumns.setting import set_out
from evencolumns.sheet import Sheet

NO_CELLS = (" ", "a b", " a", "a ", "\t", "a\tb", "\n", "a\n", "abcdefghi", "a" * 20)
NO_LINES = ([], ["a"] * 7, ["a"] * 20, [" "], ["a", "b c"], ["abcdefghi", "a"], ["a", "abcdefghi"], ["a", "\t"], ["\n"])


def some_page():
    return [["a", "bb", "c"], ["dddd", "e"], ["f"], ["g", "h"]]


def full_page():
    return [["a", "b"] for number in range(20)]


def state(sheet):
    return sheet.page(), sheet.lines(), sheet.touched()


class SheetCase(unittest.TestCase):
    def refused(self, error, sheet, deed, *handed):
        ahead = state(sheet)
        with self.assertRaises(error, msg=repr((deed, handed))) as caught:
            getattr(sheet, deed)(*handed)
        self.assertIs(type(caught.exception), error)
        self.assertEqual(state(sheet), ahead)


class InterfaceTest(unittest.TestCase):
    def test_arguments(self):
        wanted = {
            "page": [], "lines": [], "touched": [],
            "put": ["line", "column", "cell"], "put_in": ["line", "cells"], "take_out": ["line"],
        }
        self.assertEqual(list(inspect.signature(Sheet).parameters), ["page", "gap", "least"])
        for name, names in wanted.items():
            method = getattr(Sheet, name)
            self.assertEqual(list(inspect.signature(method).parameters), ["self"] + names)

    def test_arguments_by_name(self):
        sheet = Sheet(page=[["a", "b"]], gap=1, least=0)
        sheet.put(line=0, column=1, cell="c")
        sheet.put_in(line=1, cells=["d"])
        self.assertEqual(sheet.take_out(line=0), ["a", "c"])
        self.assertEqual(sheet.page(), [["d"]])

    def test_kinds(self):
        sheet = Sheet(some_page(), 1, 0)
        sheet.put_in(0, ["x", "y"])
        self.assertIs(type(sheet.page()), list)
        self.assertEqual({type(line) for line in sheet.page()}, {list})
        self.assertIs(type(sheet.lines()), list)
        self.assertEqual({type(text) for text in sheet.lines()}, {str})
        self.assertIs(type(sheet.touched()), list)
        self.assertEqual({type(number) for number in sheet.touched()}, {int})
        self.assertIs(type(sheet.take_out(0)), list)


class MadeTest(unittest.TestCase):
    def test_page_and_lines(self):
        for gap, least in ((1, 0), (2, 3), (4, 12)):
            sheet = Sheet(some_page(), gap, least)
            self.assertEqual(sheet.page(), some_page())
            self.assertEqual(sheet.lines(), set_out(some_page(), gap, least))

    def test_lines_in_full(self):
        self.assertEqual(Sheet(some_page(), 1, 3).lines(), ["a    bb c", "dddd e", "f", "g  h"])


class PutTest(SheetCase):
    def test_at_each_place(self):
        for line, cells in enumerate(some_page()):
            for column in range(len(cells)):
                sheet = Sheet(some_page(), 1, 3)
                wanted = some_page()
                wanted[line][column] = "new"
                self.assertIsNone(sheet.put(line, column, "new"))
                self.assertEqual(sheet.page(), wanted)
                self.assertEqual(sheet.lines(), set_out(wanted, 1, 3))

    def test_cells_of_no_and_of_eight_signs(self):
        sheet = Sheet([["a", "b"], ["c", "d"]], 1, 0)
        sheet.put(0, 0, "abcdefgh")
        self.assertEqual(sheet.lines(), ["abcdefgh b", "c        d"])
        sheet.put(0, 0, "")
        self.assertEqual(sheet.lines(), ["  b", "c d"])
        sheet.put(1, 1, "")
        self.assertEqual(sheet.lines(), ["  b", "c "])

    def test_on_a_full_sheet(self):
        sheet = Sheet(full_page(), 1, 0)
        sheet.put(19, 1, "c")
        self.assertEqual(sheet.page(), full_page()[:19] + [["a", "c"]])

    def test_no_line(self):
        sheet = Sheet(some_page(), 1, 0)
        for line in (-1, -4, -5, 4, 5, 100, -100):
            self.refused(NoLine, sheet, "put", line, 0, "x")

    def test_no_column(self):
        sheet = Sheet(some_page(), 1, 0)
        for line, cells in enumerate(some_page()):
            for column in (-1, -len(cells), len(cells), len(cells) + 1, 6, 100, -100):
                self.refused(NoColumn, sheet, "put", line, column, "x")

    def test_open_cells_column_is_there(self):
        sheet = Sheet(some_page(), 1, 0)
        for line, cells in enumerate(some_page()):
            sheet.put(line, len(cells) - 1, "x")
        self.assertEqual(sheet.page(), [["a", "bb", "x"], ["dddd", "x"], ["x"], ["g", "x"]])

    def test_no_cell(self):
        sheet = Sheet(some_page(), 1, 0)
        for cell in NO_CELLS:
            for line, cells in enumerate(some_page()):
                for column in range(len(cells)):
                    self.refused(NoPage, sheet, "put", line, column, cell)

    def test_no_line_goes_ahead_of_no_column(self):
        sheet = Sheet(some_page(), 1, 0)
        for line in (-1, 4):
            for column in (-1, 3, 6):
                self.refused(NoLine, sheet, "put", line, column, "x")

    def test_no_line_goes_ahead_of_no_page(self):
        sheet = Sheet(some_page(), 1, 0)
        for line in (-1, 4):
            for cell in NO_CELLS:
                self.refused(NoLine, sheet, "put", line, 0, cell)
                self.refused(NoLine, sheet, "put", line, 9, cell)

    def test_no_column_goes_ahead_of_no_page(self):
        sheet = Sheet(some_page(), 1, 0)
        for cell in NO_CELLS:
            self.refused(NoColumn, sheet, "put", 0, 3, cell)
            self.refused(NoColumn, sheet, "put", 2, -1, cell)


class PutInTest(SheetCase):
    def test_at_each_place_and_behind_the_last_line(self):
        for line in range(5):
            for cells in (["x"], ["new", ""], ["a", "b", "c", "d", "e", "f"]):
                sheet = Sheet(some_page(), 1, 3)
                wanted = some_page()
                wanted.insert(line, list(cells))
                self.assertIsNone(sheet.put_in(line, cells))
                self.assertEqual(sheet.page(), wanted)
                self.assertEqual(sheet.page()[line], cells)
                self.assertEqual(sheet.lines(), set_out(wanted, 1, 3))

    def test_up_to_twenty_lines(self):
        sheet = Sheet([["a", "b"]], 1, 0)
        for number in range(1, 20):
            sheet.put_in(number, ["a", "b"])
        self.assertEqual(sheet.page(), full_page())
        self.refused(Full, sheet, "put_in", 20, ["a", "b"])

    def test_no_line(self):
        sheet = Sheet(some_page(), 1, 0)
        for line in (-1, -4, -5, 5, 6, 100, -100):
            self.refused(NoLine, sheet, "put_in", line, ["x"])

    def test_list_that_is_no_line(self):
        sheet = Sheet(some_page(), 1, 0)
        for cells in NO_LINES:
            for line in range(5):
                self.refused(NoPage, sheet, "put_in", line, cells)

    def test_full(self):
        sheet = Sheet(full_page(), 1, 0)
        for line in range(21):
            self.refused(Full, sheet, "put_in", line, ["x"])

    def test_room_again_behind_a_line_taken_out(self):
        sheet = Sheet(full_page(), 1, 0)
        sheet.take_out(3)
        sheet.put_in(19, ["x"])
        self.assertEqual(sheet.page(), full_page()[:19] + [["x"]])
        self.refused(Full, sheet, "put_in", 0, ["x"])

    def test_no_line_goes_ahead_of_no_page(self):
        sheet = Sheet(some_page(), 1, 0)
        for cells in NO_LINES:
            for line in (-1, 5):
                self.refused(NoLine, sheet, "put_in", line, cells)

    def test_no_line_goes_ahead_of_full(self):
        sheet = Sheet(full_page(), 1, 0)
        for line in (-1, 21, 22):
            self.refused(NoLine, sheet, "put_in", line, ["x"])
            self.refused(NoLine, sheet, "put_in", line, [])

    def test_no_page_goes_ahead_of_full(self):
        sheet = Sheet(full_page(), 1, 0)
        for cells in NO_LINES:
            for line in (0, 10, 20):
                self.refused(NoPage, sheet, "put_in", line, cells)


class TakeOutTest(SheetCase):
    def test_at_each_place(self):
        for line in range(4):
            sheet = Sheet(some_page(), 1, 3)
            wanted = some_page()
            cells = wanted.pop(line)
            self.assertEqual(sheet.take_out(line), cells)
            self.assertEqual(sheet.page(), wanted)
            self.assertEqual(sheet.lines(), set_out(wanted, 1, 3))

    def test_gives_back_the_cells_by_now(self):
        sheet = Sheet([["a", "b"], ["c"]], 1, 0)
        sheet.put(0, 1, "new")
        sheet.put_in(2, ["d", "e", "f"])
        self.assertEqual(sheet.take_out(2), ["d", "e", "f"])
        self.assertEqual(sheet.take_out(0), ["a", "new"])
        self.assertEqual(sheet.page(), [["c"]])

    def test_no_line(self):
        sheet = Sheet(some_page(), 1, 0)
        for line in (-1, -4, -5, 4, 5, 100, -100):
            self.refused(NoLine, sheet, "take_out", line)

    def test_only_line(self):
        sheet = Sheet([["a", "b"]], 1, 0)
        self.refused(OnlyLine, sheet, "take_out", 0)
        sheet.put_in(0, ["c"])
        sheet.take_out(1)
        self.refused(OnlyLine, sheet, "take_out", 0)
        self.assertEqual(sheet.page(), [["c"]])

    def test_no_line_goes_ahead_of_only_line(self):
        sheet = Sheet([["a", "b"]], 1, 0)
        for line in (-1, 1, 2, 100):
            self.refused(NoLine, sheet, "take_out", line)


class RefusedTest(SheetCase):
    def test_what_was_touched_stays_behind_each_refusal(self):
        sheet = Sheet(full_page(), 1, 0)
        sheet.put(3, 1, "c")
        self.assertEqual(sheet.touched(), [3])
        self.refused(NoLine, sheet, "put", 20, 0, "x")
        self.refused(NoColumn, sheet, "put", 0, 2, "x")
        self.refused(NoPage, sheet, "put", 0, 0, " ")
        self.refused(NoLine, sheet, "put_in", 21, ["x"])
        self.refused(NoPage, sheet, "put_in", 0, [])
        self.refused(Full, sheet, "put_in", 0, ["x"])
        self.refused(NoLine, sheet, "take_out", 20)
        self.assertEqual(sheet.touched(), [3])

    def test_what_was_touched_stays_where_the_only_line_stays(self):
        sheet = Sheet([["a", "b"]], 1, 0)
        sheet.put(0, 0, "c")
        self.refused(OnlyLine, sheet, "take_out", 0)
        self.assertEqual(sheet.touched(), [0])

    def test_deeds_go_on_behind_a_refusal(self):
        sheet = Sheet([["a", "b"], ["c", "d"]], 1, 0)
        self.refused(NoPage, sheet, "put", 0, 0, "a b")
        sheet.put(0, 0, "ab")
        self.assertEqual(state(sheet), ([["ab", "b"], ["c", "d"]], ["ab b", "c  d"], [0, 1]))


if __name__ == "__main__":
    unittest.main()
