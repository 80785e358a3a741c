import inspect
import itertools
import unittest

from evencolumns.blocks import blocks


def page_of(*counts):
    return [["x"] * count for count in counts]


def blocks_by_definition(page):
    # Every stretch is tried, against the document's own words and nothing cleverer.
    def all_closed(column, first, last):
        inside = 0 <= first and last < len(page)
        return inside and all(column < len(line) - 1 for line in page[first:last + 1])

    return [
        (column, first, last)
        for column in range(6)
        for first in range(len(page))
        for last in range(first, len(page))
        if all_closed(column, first, last)
        and not all_closed(column, first - 1, last)
        and not all_closed(column, first, last + 1)
    ]


class BlocksTest(unittest.TestCase):
    def test_arguments(self):
        self.assertEqual(list(inspect.signature(blocks).parameters), ["page"])

    def test_one_line_of_one_cell_has_no_block(self):
        self.assertEqual(blocks([["a"]]), [])

    def test_lines_of_one_cell_have_no_block(self):
        self.assertEqual(blocks(page_of(1, 1, 1)), [])

    def test_line_of_two_cells(self):
        self.assertEqual(blocks(page_of(2)), [(0, 0, 0)])

    def test_line_of_six_cells(self):
        self.assertEqual(blocks(page_of(6)), [(0, 0, 0), (1, 0, 0), (2, 0, 0), (3, 0, 0), (4, 0, 0)])

    def test_lines_of_one_two_and_six_cells(self):
        self.assertEqual(
            blocks(page_of(1, 2, 6)),
            [(0, 1, 2), (1, 2, 2), (2, 2, 2), (3, 2, 2), (4, 2, 2)],
        )

    def test_column_parted_by_a_line_of_one_cell(self):
        self.assertEqual(blocks(page_of(2, 2, 1, 2, 1, 2, 2, 2)), [(0, 0, 1), (0, 3, 3), (0, 5, 7)])

    def test_open_cell_parts_a_column(self):
        # The middle line has a cell in column 1, but it is the open one.
        self.assertEqual(blocks(page_of(3, 2, 3)), [(0, 0, 2), (1, 0, 0), (1, 2, 2)])

    def test_several_lines_that_are_too_short_part_a_column_once(self):
        self.assertEqual(blocks(page_of(2, 1, 1, 1, 2)), [(0, 0, 0), (0, 4, 4)])

    def test_short_lines_at_both_ends(self):
        self.assertEqual(blocks(page_of(1, 1, 2, 2, 1)), [(0, 2, 3)])

    def test_block_of_all_lines(self):
        self.assertEqual(blocks(page_of(*[2] * 20)), [(0, 0, 19)])

    def test_order_by_columns_then_lines(self):
        self.assertEqual(
            blocks(page_of(4, 1, 3, 4, 2, 3)),
            [(0, 0, 0), (0, 2, 5), (1, 0, 0), (1, 2, 3), (1, 5, 5), (2, 0, 0), (2, 3, 3)],
        )

    def test_empty_cells_count_as_cells(self):
        self.assertEqual(blocks([["", ""], ["", "", ""]]), [(0, 0, 1), (1, 1, 1)])

    def test_all_small_shapes_as_the_document_says(self):
        for lines in range(1, 6):
            for counts in itertools.product(range(1, 5), repeat=lines):
                page = page_of(*counts)
                self.assertEqual(blocks(page), blocks_by_definition(page), counts)

    def test_kinds(self):
        told = blocks(page_of(3, 2, 1, 6))
        self.assertIs(type(told), list)
        for block in told:
            self.assertIs(type(block), tuple)
            self.assertEqual([type(number) for number in block], [int, int, int])


if __name__ == "__main__":
    unittest.main()
