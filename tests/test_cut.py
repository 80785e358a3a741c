import inspect
import unittest

from evencolumns.blocks import widths
from evencolumns.errors import NoCut
from evencolumns.setting import cut, set_out

PAGES = [
    [["a"]],
    [[""]],
    [["abcdefgh"]],
    [["", ""]],
    [["", "a"], ["b", ""]],
    [["abcdefgh"] * 6],
    [[""] * 6],
    [["a", "bb", "c"], ["dddd", "e"], ["f"], ["g", "hhhhhh", "i"], ["j", "k", "l"]],
    [["!", "~", "~!~!"], ["", "", "", "x", "", ""]],
    [["a", "b", "c", "d", "e", "f"]] * 20,
]


class CutTest(unittest.TestCase):
    def refused(self, text, line_widths):
        with self.assertRaises(NoCut, msg=repr((text, line_widths))) as caught:
            cut(text, line_widths)
        self.assertIs(type(caught.exception), NoCut)

    def test_arguments(self):
        self.assertEqual(list(inspect.signature(cut).parameters), ["text", "widths"])

    def test_each_line_set_out_and_cut_by_its_widths_is_the_line(self):
        for page in PAGES:
            for gap in range(1, 5):
                for least in range(0, 13):
                    told = zip(set_out(page, gap, least), widths(page, gap, least))
                    self.assertEqual([cut(text, line_widths) for text, line_widths in told], page)

    def test_no_widths_at_all(self):
        self.assertEqual(cut("", []), [""])
        self.assertEqual(cut("a", []), ["a"])
        self.assertEqual(cut("abcdefgh", []), ["abcdefgh"])

    def test_five_widths(self):
        self.assertEqual(cut("a bb ccc d  f", [2, 3, 4, 2, 1]), ["a", "bb", "ccc", "d", "", "f"])

    def test_widths_beyond_the_bounds_are_not_refused(self):
        self.assertEqual(cut("a b c d e f g", [2] * 6), ["a", "b", "c", "d", "e", "f", "g"])
        self.assertEqual(cut("a" + " " * 39 + "b", [40]), ["a", "b"])
        self.assertEqual(cut(" " * 210 + "b", [30] * 7), [""] * 7 + ["b"])

    def test_width_of_no_signs_leaves_no_room_for_a_blank(self):
        self.refused("", [0])
        self.refused("a", [0])
        self.refused("a b", [2, 0])
        self.refused("a b", [0, 2])

    def test_width_below_nought_is_refused(self):
        self.refused("", [-1])
        self.refused("a b", [-1])
        self.refused("a b", [2, -1])
        self.refused("a b", [-2, 2])

    def test_width_of_one_holds_an_empty_cell_alone(self):
        self.assertEqual(cut(" a", [1]), ["", "a"])
        self.assertEqual(cut(" ", [1]), ["", ""])
        self.refused("a", [1])
        self.refused("ab", [1])

    def test_greatest_width(self):
        self.assertEqual(cut("abcdefgh" + " " * 22 + "b", [30]), ["abcdefgh", "b"])

    def test_too_few_signs_at_the_first_piece(self):
        self.refused("", [1])
        self.refused("a", [3])
        self.refused("a ", [3])
        self.refused("  ", [3])
        self.refused("a ", [3, 2])

    def test_too_few_signs_at_a_later_piece(self):
        self.refused("a ", [2, 1])
        self.refused("a b", [2, 2])
        self.refused("a b ", [2, 3])
        self.refused("a b c d e", [2, 2, 2, 2, 2])

    def test_nothing_left_for_the_open_cell(self):
        self.assertEqual(cut("a ", [2]), ["a", ""])
        self.assertEqual(cut("a b ", [2, 2]), ["a", "b", ""])
        self.assertEqual(cut("a b c d e ", [2] * 5), ["a", "b", "c", "d", "e", ""])

    def test_piece_without_a_blank_behind_its_cell(self):
        self.refused("abc", [2])
        self.refused("ab", [2])
        self.refused("a bcd", [2, 2])
        self.refused(" abc", [2])

    def test_piece_with_a_blank_ahead_of_its_cell(self):
        self.refused(" a b", [3])
        self.refused("  a b", [4])
        self.refused("x  a b", [2, 3])

    def test_piece_with_a_blank_within_its_cell(self):
        self.refused("a b c", [4])
        self.refused("a  b  c", [6])
        self.refused("x a b c", [2, 4])

    def test_piece_of_blanks_alone_is_an_empty_cell(self):
        self.assertEqual(cut("   b", [3]), ["", "b"])
        self.assertEqual(cut("    b", [3, 1]), ["", "", "b"])
        self.assertEqual(cut(" " * 30, [30]), ["", ""])

    def test_cell_of_eight_and_of_nine_signs_in_a_piece(self):
        self.assertEqual(cut("abcdefgh x", [9]), ["abcdefgh", "x"])
        self.refused("abcdefghi x", [10])
        self.refused("a abcdefghi x", [2, 10])
        self.refused("abcdefghi" + " " * 21 + "x", [30])

    def test_cell_of_eight_and_of_nine_signs_in_the_rest(self):
        self.assertEqual(cut("a abcdefgh", [2]), ["a", "abcdefgh"])
        self.refused("a abcdefghi", [2])
        self.refused("abcdefghi", [])
        self.refused("a" * 200, [])

    def test_blank_tab_or_line_end_in_the_rest(self):
        for sign in (" ", "\t", "\n"):
            for rest in (sign, sign + "b", "b" + sign, "b" + sign + "c"):
                self.refused("a " + rest, [2])
                self.refused(rest, [])

    def test_sign_that_is_none_in_a_piece(self):
        for sign in ("\t", "\n"):
            self.refused(sign + " b", [2])
            self.refused(sign + "a b", [3])
            self.refused("a" + sign + " b", [3])
            self.refused("a " + sign + "b", [3])
            self.refused("a" + sign + "b", [2])
            self.refused("a " + sign + " b", [4])
            self.refused("x a" + sign + " b", [2, 3])

    def test_each_sign_of_a_cell_is_taken(self):
        for code in range(ord("!"), ord("~") + 1):
            sign = chr(code)
            if sign != "%":
                self.assertEqual(cut(sign + " " + sign, [2]), [sign, sign])

    def test_list_of_widths_is_as_it_was(self):
        line_widths = [2, 3]
        self.assertEqual(cut("a bb c", line_widths), ["a", "bb", "c"])
        self.assertEqual(line_widths, [2, 3])
        self.refused("a bbbbb c", line_widths)
        self.assertEqual(line_widths, [2, 3])
        line_widths[0] = 9
        self.assertEqual(cut("a bb c", [2, 3]), ["a", "bb", "c"])

    def test_told_list_is_the_askers_own(self):
        line_widths = [2]
        told = cut("a b", line_widths)
        told.append("more")
        self.assertEqual(cut("a b", line_widths), ["a", "b"])
        cut("", []).append("more")
        self.assertEqual(cut("", []), [""])
        self.assertEqual(line_widths, [2])

    def test_kinds(self):
        told = cut("a  ", [2, 1])
        self.assertIs(type(told), list)
        self.assertEqual([type(cell) for cell in told], [str, str, str])


if __name__ == "__main__":
    unittest.main()
