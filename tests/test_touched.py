import itertools
import unittest

from evencolumns.errors import NoLine, NoPage
from evencolumns.setting import set_out
from evencolumns.sheet import Sheet

LINES = (["x"], ["", "x"], ["a", ""], ["aaa", "x"], ["a", "aa", "x"], ["aaaa", "", ""])


def touched_by_definition(ahead, behind, now_of):
    # A line that was not there ahead has no old text, and so is always told.
    old = {now_of(number): text for number, text in enumerate(ahead)}
    return [number for number, text in enumerate(behind) if old.get(number) != text]


class PutTouchedTest(unittest.TestCase):
    def touched_by_put(self, page, line, column, cell, gap=1, least=0):
        sheet = Sheet(page, gap, least)
        sheet.put(line, column, cell)
        return sheet.touched()

    def test_none_when_a_sheet_is_made(self):
        self.assertEqual(Sheet([["a", "b"], ["c", "d"]], 1, 0).touched(), [])

    def test_cell_that_widens_its_block(self):
        page = [["a", "x"], ["bb", "x"], ["c", "x"], ["-"], ["d", "x"]]
        self.assertEqual(self.touched_by_put(page, 2, 0, "cccc"), [0, 1, 2])

    def test_cell_that_narrows_its_block(self):
        page = [["a", "x"], ["bbbb", "x"], ["c", "x"], ["-"], ["d", "x"]]
        self.assertEqual(self.touched_by_put(page, 1, 0, "b"), [0, 1, 2])

    def test_cell_that_changes_no_width(self):
        page = [["a", "x"], ["bbbb", "x"], ["c", "x"]]
        self.assertEqual(self.touched_by_put(page, 0, 0, "aaaa"), [0])
        self.assertEqual(self.touched_by_put(page, 1, 0, "cccc"), [1])
        self.assertEqual(self.touched_by_put(page, 2, 0, ""), [2])

    def test_least_width_keeps_the_others_as_they_were(self):
        page = [["a", "x"], ["bbbb", "x"]]
        self.assertEqual(self.touched_by_put(page, 1, 0, "", 1, 5), [1])
        self.assertEqual(self.touched_by_put(page, 1, 0, "bbbbb", 1, 5), [0, 1])

    def test_open_cell_touches_its_line_alone(self):
        page = [["a", "x"], ["b", "x"], ["c", "d", "x"]]
        self.assertEqual(self.touched_by_put(page, 1, 1, "longer"), [1])
        self.assertEqual(self.touched_by_put(page, 1, 1, ""), [1])

    def test_width_of_an_inner_column_touches_only_lines_that_have_it(self):
        page = [["a", "b", "x"], ["a", "x"], ["a", "b", "x"], ["a", "bb", "x"]]
        self.assertEqual(self.touched_by_put(page, 3, 1, "bbb"), [2, 3])

    def test_line_with_an_empty_open_cell_is_told_for_its_blanks(self):
        self.assertEqual(self.touched_by_put([["a", ""], ["b", "x"]], 1, 0, "bb"), [0, 1])

    def test_cell_put_as_it_was(self):
        page = [["a", "x"], ["bbbb", "x"]]
        for line in range(2):
            for column in range(2):
                self.assertEqual(self.touched_by_put(page, line, column, page[line][column]), [])

    def test_cell_put_as_it_was_wipes_what_was_told(self):
        sheet = Sheet([["a", "x"]], 1, 0)
        sheet.put(0, 0, "b")
        self.assertEqual(sheet.touched(), [0])
        sheet.put(0, 0, "b")
        self.assertEqual(sheet.touched(), [])


class PutInTouchedTest(unittest.TestCase):
    def touched_by_put_in(self, page, line, cells, gap=1, least=0):
        sheet = Sheet(page, gap, least)
        sheet.put_in(line, cells)
        return sheet.touched()

    def test_line_put_in_itself(self):
        page = [["a"], ["b"]]
        for line in range(3):
            self.assertEqual(self.touched_by_put_in(page, line, ["c"]), [line])

    def test_line_put_in_is_told_though_it_is_as_its_neighbours(self):
        page = [["a", "b"], ["a", "b"]]
        for line in range(3):
            self.assertEqual(self.touched_by_put_in(page, line, ["a", "b"]), [line])

    def test_empty_line_put_in(self):
        self.assertEqual(self.touched_by_put_in([[""], [""]], 1, [""]), [1])

    def test_line_that_widens_a_block(self):
        page = [["a", "x"], ["b", "x"], ["-"], ["c", "x"]]
        for line in range(3):
            self.assertEqual(self.touched_by_put_in(page, line, ["long", "x"]), [0, 1, 2])

    def test_line_that_joins_two_blocks(self):
        # What parts two blocks of one column stays, so a line put in joins at most one in each column.
        page = [["a", "b", "x"], ["c", "x"], ["d", "e", "x"]]
        self.assertEqual(self.touched_by_put_in(page, 1, ["f", "gggg", "x"]), [0, 1])
        self.assertEqual(self.touched_by_put_in(page, 2, ["f", "gggg", "x"]), [2, 3])
        self.assertEqual(self.touched_by_put_in(page, 1, ["ffff", "g", "x"]), [0, 1, 2, 3])
        self.assertEqual(self.touched_by_put_in(page, 1, ["f", "g", "x"]), [1])

    def test_line_that_joins_a_block_beside_a_parting_line(self):
        page = [["a", "x"], ["-"], ["b", "x"]]
        self.assertEqual(self.touched_by_put_in(page, 1, ["long", "x"]), [0, 1])
        self.assertEqual(self.touched_by_put_in(page, 2, ["long", "x"]), [2, 3])

    def test_line_that_parts_a_block(self):
        page = [["aaaa", "x"], ["b", "x"], ["c", "x"]]
        self.assertEqual(self.touched_by_put_in(page, 1, ["-"]), [1, 2, 3])
        self.assertEqual(self.touched_by_put_in(page, 2, ["-"]), [2, 3])

    def test_line_that_parts_an_inner_block(self):
        page = [["a", "b", "x"], ["a", "bbbb", "x"]]
        self.assertEqual(self.touched_by_put_in(page, 1, ["a", "x"]), [0, 1])

    def test_line_that_parts_a_block_into_two_as_wide(self):
        page = [["aaaa", "x"], ["b", "x"], ["cccc", "x"]]
        self.assertEqual(self.touched_by_put_in(page, 1, ["-"]), [1])

    def test_lines_that_only_have_another_number_are_not_told(self):
        page = [["a", "x"], ["-"], ["bb", "x"], ["c", "x"]]
        self.assertEqual(self.touched_by_put_in(page, 0, ["-"]), [0])
        self.assertEqual(self.touched_by_put_in(page, 4, ["-"]), [4])

    def test_line_is_told_by_the_number_it_has_now(self):
        page = [["-"], ["bb", "x"], ["c", "x"]]
        self.assertEqual(self.touched_by_put_in(page, 0, ["-"]), [0])
        self.assertEqual(self.touched_by_put_in(page, 1, ["long", "x"]), [1, 2, 3])


class TakeOutTouchedTest(unittest.TestCase):
    def touched_by_take_out(self, page, line, gap=1, least=0):
        sheet = Sheet(page, gap, least)
        sheet.take_out(line)
        return sheet.touched()

    def test_line_that_leaves_all_others_alone(self):
        page = [["a", "x"], ["a", "x"], ["-"], ["b", "x"]]
        self.assertEqual(self.touched_by_take_out(page, 0), [])
        self.assertEqual(self.touched_by_take_out(page, 1), [])
        self.assertEqual(self.touched_by_take_out(page, 3), [])

    def test_line_whose_leaving_joins_two_blocks(self):
        self.assertEqual(self.touched_by_take_out([["aaaa", "x"], ["-"], ["b", "x"], ["c", "x"]], 1), [1, 2])
        self.assertEqual(self.touched_by_take_out([["a", "x"], ["b", "x"], ["-"], ["cccc", "x"]], 2), [0, 1])

    def test_line_whose_leaving_joins_two_blocks_as_wide(self):
        self.assertEqual(self.touched_by_take_out([["a", "x"], ["-"], ["b", "x"]], 1), [])

    def test_line_whose_leaving_joins_two_inner_blocks(self):
        page = [["a", "bbbb", "x"], ["a", "x"], ["a", "b", "x"]]
        self.assertEqual(self.touched_by_take_out(page, 1), [1])

    def test_line_that_forced_the_width(self):
        page = [["a", "x"], ["long", "x"], ["b", "x"], ["-"], ["c", "x"]]
        self.assertEqual(self.touched_by_take_out(page, 1), [0, 1])

    def test_lines_that_only_have_another_number_are_not_told(self):
        page = [["-"], ["a", "x"], ["-"], ["bb", "x"]]
        self.assertEqual(self.touched_by_take_out(page, 0), [])


class TouchedTest(unittest.TestCase):
    def test_only_the_last_deed_is_told(self):
        sheet = Sheet([["a", "x"], ["-"], ["b", "x"]], 1, 0)
        sheet.put(0, 0, "aa")
        self.assertEqual(sheet.touched(), [0])
        sheet.put(2, 0, "bb")
        self.assertEqual(sheet.touched(), [2])
        sheet.put_in(3, ["-"])
        self.assertEqual(sheet.touched(), [3])
        sheet.take_out(3)
        self.assertEqual(sheet.touched(), [])

    def test_refused_deed_leaves_what_was_told(self):
        sheet = Sheet([["a", "x"], ["b", "x"]], 1, 0)
        self.assertRaises(NoLine, sheet.take_out, 2)
        self.assertEqual(sheet.touched(), [])
        sheet.put(0, 0, "aa")
        self.assertRaises(NoPage, sheet.put, 0, 1, "a b")
        self.assertRaises(NoPage, sheet.put_in, 0, [])
        self.assertRaises(NoLine, sheet.take_out, 2)
        self.assertEqual(sheet.touched(), [0, 1])

    def test_asking_leaves_what_was_told(self):
        sheet = Sheet([["a", "x"], ["b", "x"]], 1, 0)
        sheet.put(0, 0, "aa")
        for asked in range(2):
            sheet.page()
            sheet.lines()
            self.assertEqual(sheet.touched(), [0, 1])

    def test_numbers_rise(self):
        page = [["a", "x"] for number in range(19)]
        sheet = Sheet(page, 1, 0)
        sheet.put_in(7, ["long", "x"])
        self.assertEqual(sheet.touched(), list(range(20)))
        sheet.take_out(7)
        self.assertEqual(sheet.touched(), list(range(19)))
        sheet.put(18, 0, "long")
        self.assertEqual(sheet.touched(), list(range(19)))

    def test_every_small_sheet_as_the_document_says(self):
        for page in itertools.product(LINES, repeat=3):
            page = list(page)
            for gap, least in ((1, 0), (1, 4)):
                ahead = set_out(page, gap, least)
                for line in range(3):
                    self.check_put(page, gap, least, ahead, line)
                    self.check_take_out(page, gap, least, ahead, line)
                for line in range(4):
                    self.check_put_in(page, gap, least, ahead, line)

    def check_put(self, page, gap, least, ahead, line):
        for column in range(len(page[line])):
            for cell in ("", "a", "aaaaa"):
                sheet = Sheet(page, gap, least)
                sheet.put(line, column, cell)
                wanted = touched_by_definition(ahead, sheet.lines(), lambda number: number)
                self.assertEqual(sheet.touched(), wanted, (page, line, column, cell))

    def check_put_in(self, page, gap, least, ahead, line):
        for cells in LINES:
            sheet = Sheet(page, gap, least)
            sheet.put_in(line, cells)
            wanted = touched_by_definition(ahead, sheet.lines(), lambda number: number + (number >= line))
            self.assertIn(line, wanted)
            self.assertEqual(sheet.touched(), wanted, (page, line, cells))

    def check_take_out(self, page, gap, least, ahead, line):
        sheet = Sheet(page, gap, least)
        sheet.take_out(line)
        left = ahead[:line] + ahead[line + 1:]
        wanted = touched_by_definition(left, sheet.lines(), lambda number: number)
        self.assertEqual(sheet.touched(), wanted, (page, line))


if __name__ == "__main__":
    unittest.main()
