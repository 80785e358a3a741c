import inspect
import itertools
import unittest

from evencolumns.blocks import blocks, widths
from evencolumns.setting import set_out, starts


def small_pages():
    # Every page of up to three lines of one to three cells, its cells drawn from a short round.
    lengths = (1, 0, 3, 2)
    for count in range(1, 4):
        for shape in itertools.product(range(1, 4), repeat=count):
            for turn in range(len(lengths)):
                sizes = itertools.islice(itertools.cycle(lengths), turn, None)
                yield [["x" * next(sizes) for column in range(cells)] for cells in shape]


class SetOutTest(unittest.TestCase):
    def test_arguments(self):
        self.assertEqual(list(inspect.signature(set_out).parameters), ["page", "gap", "least"])

    def test_line_of_one_cell_is_its_open_cell(self):
        self.assertEqual(set_out([["a"]], 1, 0), ["a"])
        self.assertEqual(set_out([["a"], ["bb"]], 4, 12), ["a", "bb"])

    def test_line_of_two_cells(self):
        self.assertEqual(set_out([["a", "b"]], 1, 0), ["a b"])
        self.assertEqual(set_out([["a", "b"]], 4, 0), ["a    b"])

    def test_line_of_six_cells(self):
        self.assertEqual(set_out([["a", "bb", "ccc", "d", "", "f"]], 1, 0), ["a bb ccc d  f"])

    def test_lines_of_one_two_and_six_cells(self):
        page = [["a"], ["bb", "c"], ["d", "e", "f", "g", "h", "i"], ["j"]]
        self.assertEqual(set_out(page, 1, 0), ["a", "bb c", "d  e f g h i", "j"])

    def test_cells_of_no_signs(self):
        self.assertEqual(set_out([[""]], 1, 0), [""])
        self.assertEqual(set_out([["", ""]], 1, 0), [" "])
        self.assertEqual(set_out([["", ""]], 3, 0), ["   "])
        self.assertEqual(set_out([["", "a"], ["b", ""]], 2, 0), ["   a", "b  "])

    def test_cells_of_eight_signs(self):
        self.assertEqual(set_out([["abcdefgh"]], 1, 0), ["abcdefgh"])
        self.assertEqual(set_out([["abcdefgh", "ABCDEFGH"]], 1, 0), ["abcdefgh ABCDEFGH"])
        self.assertEqual(set_out([["abcdefgh", ""], ["", "ABCDEFGH"]], 4, 12), ["abcdefgh    ", " " * 12 + "ABCDEFGH"])

    def test_two_blocks_of_one_column_with_two_widths(self):
        page = [["a", "x"], ["bbb", "x"], ["-"], ["ccccc", "x"], ["", "x"]]
        self.assertEqual(set_out(page, 1, 0), ["a   x", "bbb x", "-", "ccccc x", "      x"])

    def test_open_cell_parts_an_inner_column(self):
        page = [["a", "bb", "c"], ["a", "b"], ["a", "bbbb", "c"]]
        self.assertEqual(set_out(page, 1, 0), ["a bb c", "a b", "a bbbb c"])

    def test_long_open_cell_widens_nothing(self):
        self.assertEqual(set_out([["a", "b", "c"], ["a", "bbbbbbbb"], ["aaaaaaaa"]], 1, 0),
                         ["a b c", "a bbbbbbbb", "aaaaaaaa"])

    def test_least_width_that_decides(self):
        self.assertEqual(set_out([["a", "b"], ["cc", "d"]], 1, 5), ["a    b", "cc   d"])
        self.assertEqual(set_out([["a", "bbbbbb", "c"]], 1, 5), ["a    bbbbbb c"])
        self.assertEqual(set_out([["", ""]], 1, 12), [" " * 12])

    def test_no_blank_behind_an_open_cell(self):
        for page in small_pages():
            for line, text in zip(page, set_out(page, 2, 4)):
                if line[-1]:
                    self.assertTrue(text.endswith(line[-1]), page)

    def test_each_line_is_its_cells_with_the_blanks_that_its_widths_ask(self):
        for page in small_pages():
            for gap, least in ((1, 0), (2, 4), (4, 12)):
                told = set_out(page, gap, least)
                self.assertEqual(len(told), len(page))
                for line, text, line_widths in zip(page, told, widths(page, gap, least)):
                    place = 0
                    for cell, width in zip(line, line_widths):
                        self.assertEqual(text[place:place + width], cell + " " * (width - len(cell)))
                        place += width
                    self.assertEqual(text[place:], line[-1])

    def test_kinds(self):
        told = set_out([["a"], ["", "b"], ["", "", ""]], 1, 0)
        self.assertIs(type(told), list)
        self.assertEqual([type(text) for text in told], [str, str, str])


class StartsTest(unittest.TestCase):
    def test_arguments(self):
        self.assertEqual(list(inspect.signature(starts).parameters), ["page", "gap", "least"])

    def test_line_of_one_cell_begins_at_nought(self):
        self.assertEqual(starts([["a"]], 1, 0), [[0]])
        self.assertEqual(starts([[""], ["abcdefgh"]], 4, 12), [[0], [0]])

    def test_line_of_two_cells(self):
        self.assertEqual(starts([["a", "b"]], 1, 0), [[0, 2]])
        self.assertEqual(starts([["a", "b"]], 4, 0), [[0, 5]])

    def test_line_of_six_cells(self):
        self.assertEqual(starts([["a", "bb", "ccc", "d", "", "f"]], 1, 0), [[0, 2, 5, 9, 11, 12]])

    def test_lines_of_one_two_and_six_cells(self):
        page = [["a"], ["bb", "c"], ["d", "e", "f", "g", "h", "i"], ["j"]]
        self.assertEqual(starts(page, 1, 0), [[0], [0, 3], [0, 3, 5, 7, 9, 11], [0]])

    def test_cells_of_no_and_of_eight_signs(self):
        self.assertEqual(starts([["", ""]], 1, 0), [[0, 1]])
        self.assertEqual(starts([["abcdefgh", "", "abcdefgh"]], 1, 0), [[0, 9, 10]])
        self.assertEqual(starts([["abcdefgh"] * 6], 4, 12), [[0, 12, 24, 36, 48, 60]])

    def test_two_blocks_of_one_column_with_two_widths(self):
        page = [["a", "x"], ["bbb", "x"], ["-"], ["ccccc", "x"], ["", "x"]]
        self.assertEqual(starts(page, 1, 0), [[0, 4], [0, 4], [0], [0, 6], [0, 6]])

    def test_least_width_that_decides(self):
        self.assertEqual(starts([["a", "b", "c"], ["d", "eeeeee", "f"]], 1, 5), [[0, 5, 12], [0, 5, 12]])

    def test_each_cell_of_a_block_begins_and_ends_at_one_place(self):
        for page in small_pages():
            told = starts(page, 2, 4)
            for column, first, last in blocks(page):
                for number in range(first, last + 1):
                    self.assertEqual(told[number][column:column + 2], told[first][column:column + 2])

    def test_each_cell_stands_where_it_is_told_to_begin(self):
        for page in small_pages():
            for gap, least in ((1, 0), (2, 4), (4, 12)):
                for line, text, places in zip(page, set_out(page, gap, least), starts(page, gap, least)):
                    self.assertEqual(places[0], 0)
                    ends = places[1:] + [len(text)]
                    self.assertEqual([text[a:b].rstrip(" ") for a, b in zip(places, ends, strict=True)], line)
                    self.assertEqual(len(text) - places[-1], len(line[-1]))

    def test_list_for_each_line_with_a_place_for_each_cell(self):
        for page in small_pages():
            told = starts(page, 1, 0)
            self.assertEqual([len(places) for places in told], [len(line) for line in page])

    def test_kinds(self):
        told = starts([["a"], ["", "b"]], 1, 0)
        self.assertIs(type(told), list)
        for places in told:
            self.assertIs(type(places), list)
            for place in places:
                self.assertIs(type(place), int)


if __name__ == "__main__":
    unittest.main()
