import inspect
import unittest

from evencolumns.blocks import blocks, forced


class ForcedTest(unittest.TestCase):
    def test_arguments(self):
        self.assertEqual(list(inspect.signature(forced).parameters), ["page", "gap", "least"])

    def test_no_block_nothing_forced(self):
        self.assertEqual(forced([["a"]], 1, 0), [])
        self.assertEqual(forced([["a"], ["b"]], 4, 12), [])

    def test_longest_cell_forces(self):
        self.assertEqual(forced([["a", "z"], ["bbb", "z"], ["cc", "z"]], 1, 0), [(4, 1)])

    def test_first_of_several_lines_that_reach_the_width(self):
        page = [["a", "z"], ["bbb", "z"], ["ccc", "z"], ["ddd", "z"]]
        self.assertEqual(forced(page, 2, 0), [(5, 1)])

    def test_first_line_of_all_alike(self):
        self.assertEqual(forced([["", "z"], ["", "z"]], 1, 0), [(1, 0)])

    def test_none_where_all_are_shorter(self):
        self.assertEqual(forced([["a", "z"], ["bbb", "z"]], 1, 5), [(5, None)])
        self.assertEqual(forced([["", ""]], 4, 12), [(12, None)])

    def test_line_that_comes_to_just_the_least_width(self):
        page = [["a", "z"], ["bbb", "z"], ["ccc", "z"]]
        self.assertEqual(forced(page, 1, 3), [(4, 1)])
        self.assertEqual(forced(page, 1, 4), [(4, 1)])
        self.assertEqual(forced(page, 1, 5), [(5, None)])

    def test_cell_that_comes_to_the_least_width_without_its_gap_forces_nothing(self):
        self.assertEqual(forced([["aaa", "z"], ["aaaa", "z"]], 2, 8), [(8, None)])
        self.assertEqual(forced([["aaaaaaaa", "z"]], 1, 8), [(9, 0)])

    def test_eight_signs_and_the_greatest_spacing(self):
        self.assertEqual(forced([["abcdefgh", ""]], 4, 12), [(12, 0)])
        self.assertEqual(forced([["abcdefgh", ""]], 3, 12), [(12, None)])

    def test_line_is_numbered_in_the_page_not_in_its_block(self):
        page = [["-"], ["a", "z"], ["-"], ["b", "z"], ["ccc", "z"]]
        self.assertEqual(forced(page, 1, 0), [(2, 1), (4, 4)])

    def test_longer_cell_of_another_block_forces_nothing(self):
        page = [["aaaaa", "z"], ["-"], ["a", "z"]]
        self.assertEqual(forced(page, 1, 3), [(6, 0), (3, None)])

    def test_open_cell_forces_nothing(self):
        self.assertEqual(forced([["a", "bbbbbb"], ["a", "bb", "c"]], 1, 0), [(2, 0), (3, 1)])

    def test_tuple_for_each_block_in_their_order(self):
        page = [["a", "bb", "c"], ["dddd", "e"], ["f"], ["g", "hhhhhh", "i"]]
        self.assertEqual(blocks(page), [(0, 0, 1), (0, 3, 3), (1, 0, 0), (1, 3, 3)])
        self.assertEqual(forced(page, 1, 4), [(5, 1), (4, None), (4, None), (7, 3)])

    def test_kinds(self):
        told = forced([["a", "b", "c"], ["d", "eeeee", "f"]], 1, 4)
        self.assertIs(type(told), list)
        self.assertEqual(told, [(4, None), (6, 1)])
        for pair in told:
            self.assertIs(type(pair), tuple)
            self.assertIs(type(pair[0]), int)
        self.assertIs(told[0][1], None)
        self.assertIs(type(told[1][1]), int)


if __name__ == "__main__":
    unittest.main()
