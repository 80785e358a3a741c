import inspect
import unittest

from evencolumns.blocks import blocks, widths


class WidthsTest(unittest.TestCase):
    def test_arguments(self):
        self.assertEqual(list(inspect.signature(widths).parameters), ["page", "gap", "least"])

    def test_line_of_one_cell_has_an_empty_list(self):
        self.assertEqual(widths([["a"]], 1, 0), [[]])
        self.assertEqual(widths([["a"], ["b", "c"], ["d"]], 1, 0), [[], [2], []])

    def test_list_for_each_line_with_a_width_for_each_closed_cell(self):
        page = [["a", "bb", "ccc"], ["dddd", "e"], ["f"], ["g", "h", "i", "j", "k", "l"]]
        self.assertEqual(widths(page, 1, 0), [[5, 3], [5], [], [2, 2, 2, 2, 2]])

    def test_longest_cell_may_stand_in_any_line_of_the_block(self):
        for place in range(3):
            page = [["a", "z"], ["a", "z"], ["a", "z"]]
            page[place][0] = "aaaaa"
            self.assertEqual(widths(page, 2, 0), [[7], [7], [7]])

    def test_open_cell_widens_no_block(self):
        self.assertEqual(widths([["a", "b", "c"], ["a", "bbbbbbbb"], ["aaaaaaaa"]], 1, 0), [[2, 2], [2], []])

    def test_every_gap_is_added(self):
        for gap in (1, 2, 3, 4):
            self.assertEqual(widths([["abc", ""], ["ab", ""]], gap, 0), [[3 + gap], [3 + gap]])

    def test_least_width_below_on_and_above_the_cell_with_its_gap(self):
        page = [["abc", "z"]]
        self.assertEqual(widths(page, 2, 4), [[5]])
        self.assertEqual(widths(page, 2, 5), [[5]])
        self.assertEqual(widths(page, 2, 6), [[6]])

    def test_gap_is_not_added_to_the_least_width(self):
        self.assertEqual(widths([["a", "z"]], 4, 12), [[12]])

    def test_cells_of_no_signs(self):
        self.assertEqual(widths([["", ""]], 1, 0), [[1]])
        self.assertEqual(widths([["", ""]], 4, 0), [[4]])
        self.assertEqual(widths([["", ""]], 4, 5), [[5]])

    def test_cells_of_eight_signs(self):
        self.assertEqual(widths([["abcdefgh", ""]], 1, 0), [[9]])
        self.assertEqual(widths([["abcdefgh", ""]], 4, 0), [[12]])
        self.assertEqual(widths([["abcdefgh", ""]], 4, 12), [[12]])
        self.assertEqual(widths([["abcdefgh", ""]], 3, 12), [[12]])

    def test_two_blocks_of_one_column_have_two_widths(self):
        page = [["a", "x"], ["bbb", "x"], ["-"], ["ccccc", "x"], ["", "x"]]
        self.assertEqual(widths(page, 1, 0), [[4], [4], [], [6], [6]])

    def test_blocks_of_an_inner_column_are_parted_by_an_open_cell(self):
        page = [["a", "bb", "c"], ["a", "b"], ["a", "bbbb", "c"]]
        self.assertEqual(widths(page, 1, 0), [[2, 3], [2], [2, 5]])

    def test_least_width_decides_for_one_block_alone(self):
        page = [["a", "bbbbbb", "c"], ["aa", "b", "c"]]
        self.assertEqual(widths(page, 1, 5), [[5, 7], [5, 7]])

    def test_each_closed_cell_has_the_width_of_its_block(self):
        page = [["a", "bb", "c"], ["ddd", "", "e", "f"], ["g", "h"], ["i"], ["jjjjj", "kk", "l"]]
        told = widths(page, 3, 5)
        self.assertEqual([len(line) for line in told], [len(line) - 1 for line in page])
        for column, first, last in blocks(page):
            longest = max(len(page[number][column]) for number in range(first, last + 1))
            for number in range(first, last + 1):
                self.assertEqual(told[number][column], max(longest + 3, 5))

    def test_kinds(self):
        told = widths([["a", "b", "c"], ["d"], ["", ""]], 1, 12)
        self.assertIs(type(told), list)
        for line in told:
            self.assertIs(type(line), list)
            for width in line:
                self.assertIs(type(width), int)


if __name__ == "__main__":
    unittest.main()
