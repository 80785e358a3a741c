import copy
import unittest

from evencolumns.errors import NoPage
from evencolumns.sheet import Sheet


def some_page():
    return [["a", "bb", "c"], ["dddd", "e"], ["f"], ["g", "h"]]


def state(sheet):
    return sheet.page(), sheet.lines(), sheet.touched()


class HandedInTest(unittest.TestCase):
    def test_page_may_be_changed_behind(self):
        page = some_page()
        sheet = Sheet(page, 1, 0)
        ahead = state(sheet)
        page[0][0] = "aaaaaaaa"
        page[1].append("more")
        page[3].clear()
        page.insert(0, ["n", "o"])
        page.pop(3)
        self.assertEqual(state(sheet), ahead)
        self.assertEqual(sheet.page(), some_page())

    def test_page_is_not_changed_by_the_deeds(self):
        page = some_page()
        sheet = Sheet(page, 1, 0)
        sheet.put(0, 0, "new")
        sheet.put_in(1, ["x", "y"])
        sheet.take_out(0)
        self.assertEqual(page, some_page())

    def test_one_list_may_stand_for_several_lines(self):
        line = ["a", "b"]
        sheet = Sheet([line, line, line], 1, 0)
        sheet.put(1, 1, "c")
        self.assertEqual(sheet.page(), [["a", "b"], ["a", "c"], ["a", "b"]])
        self.assertEqual(sheet.touched(), [1])
        self.assertEqual(line, ["a", "b"])

    def test_cells_put_in_may_be_changed_behind(self):
        sheet = Sheet(some_page(), 1, 0)
        cells = ["x", "y"]
        sheet.put_in(1, cells)
        ahead = state(sheet)
        cells[0] = "xxxxxxxx"
        cells.append("more")
        self.assertEqual(state(sheet), ahead)
        self.assertEqual(sheet.page()[1], ["x", "y"])

    def test_cells_put_in_are_not_changed_by_the_deeds(self):
        sheet = Sheet(some_page(), 1, 0)
        cells = ["x", "y"]
        sheet.put_in(1, cells)
        sheet.put(1, 0, "new")
        self.assertEqual(cells, ["x", "y"])
        self.assertEqual(sheet.take_out(1), ["new", "y"])

    def test_cells_put_in_twice_are_two_lines(self):
        sheet = Sheet([["a"]], 1, 0)
        cells = ["x", "y"]
        sheet.put_in(0, cells)
        sheet.put_in(0, cells)
        sheet.put(0, 1, "z")
        self.assertEqual(sheet.page(), [["x", "z"], ["x", "y"], ["a"]])

    def test_refused_lists_are_as_they_were(self):
        sheet = Sheet(some_page(), 1, 0)
        cells = ["x", "y z"]
        self.assertRaises(NoPage, sheet.put_in, 0, cells)
        self.assertEqual(cells, ["x", "y z"])
        page = [["a"], []]
        self.assertRaises(NoPage, Sheet, page, 1, 0)
        self.assertEqual(page, [["a"], []])


class ToldTest(unittest.TestCase):
    def changed_sheet(self):
        sheet = Sheet(some_page(), 1, 0)
        sheet.put(3, 0, "gg")
        sheet.put_in(0, ["long", "x"])
        return sheet

    def test_every_told_list_may_be_changed(self):
        sheet = self.changed_sheet()
        ahead = state(sheet)
        kept = copy.deepcopy(ahead)
        page = sheet.page()
        page[0][0] = "new"
        page[1].append("more")
        page.pop()
        sheet.page().clear()
        sheet.lines().reverse()
        sheet.lines().append("more")
        sheet.touched().clear()
        sheet.touched().append(99)
        self.assertEqual(state(sheet), kept)
        self.assertEqual(ahead, kept)

    def test_told_lists_stay_as_they_were_told(self):
        sheet = self.changed_sheet()
        told = state(sheet)
        kept = copy.deepcopy(told)
        sheet.put(0, 0, "other")
        sheet.put_in(2, ["y"])
        sheet.take_out(0)
        self.assertEqual(told, kept)

    def test_nothing_touched_is_told_anew(self):
        sheet = Sheet([["a"]], 1, 0)
        sheet.touched().append(7)
        self.assertEqual(sheet.touched(), [])
        self.assertEqual(Sheet([["a"]], 1, 0).touched(), [])

    def test_cells_taken_out_may_be_changed(self):
        sheet = self.changed_sheet()
        page = sheet.page()
        cells = sheet.take_out(1)
        ahead = state(sheet)
        cells.append("more")
        cells[0] = "new"
        self.assertEqual(state(sheet), ahead)
        self.assertEqual(page[1], ["a", "bb", "c"])

    def test_cells_taken_out_and_put_in_again(self):
        sheet = self.changed_sheet()
        cells = sheet.take_out(1)
        sheet.put_in(1, cells)
        sheet.put_in(1, cells)
        cells.clear()
        self.assertEqual(sheet.page()[1:3], [["a", "bb", "c"], ["a", "bb", "c"]])

    def test_no_two_told_lists_are_one(self):
        handed = some_page()
        sheet = Sheet(handed, 1, 0)
        cells = ["x", "y"]
        sheet.put_in(2, cells)
        pages = [sheet.page(), sheet.page()]
        lists = pages + pages[0] + pages[1]
        lists += [sheet.lines(), sheet.lines(), sheet.touched(), sheet.touched()]
        lists += [handed, cells] + handed + [sheet.take_out(2)]
        self.assertEqual(len({id(one) for one in lists}), len(lists))


class TwoSheetsTest(unittest.TestCase):
    def test_two_sheets_of_one_page_are_two(self):
        page = some_page()
        first, second = Sheet(page, 1, 0), Sheet(page, 1, 0)
        ahead = state(second)
        first.put(0, 0, "new")
        first.put_in(1, ["x"])
        first.take_out(3)
        self.assertEqual(state(second), ahead)
        second.put(2, 0, "other")
        self.assertEqual(first.page(), [["new", "bb", "c"], ["x"], ["dddd", "e"], ["g", "h"]])
        self.assertEqual(second.page(), [["a", "bb", "c"], ["dddd", "e"], ["other"], ["g", "h"]])

    def test_sheet_of_the_page_another_tells(self):
        first = Sheet(some_page(), 1, 0)
        second = Sheet(first.page(), 4, 12)
        second.put(0, 0, "new")
        self.assertEqual(first.page(), some_page())
        self.assertEqual(first.lines()[0], "a    bb c")

    def test_each_sheet_has_its_own_spacing(self):
        first, second = Sheet([["a", "b"]], 1, 0), Sheet([["a", "b"]], 4, 6)
        first.put(0, 1, "c")
        second.put(0, 1, "d")
        self.assertEqual((first.lines(), second.lines()), (["a c"], ["a     d"]))


if __name__ == "__main__":
    unittest.main()
