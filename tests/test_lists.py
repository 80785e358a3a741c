import copy
import unittest

from evencolumns.blocks import blocks, forced, widths
from evencolumns.errors import NoPage, NoSpacing
from evencolumns.notes import shown
from evencolumns.setting import set_out, starts

CALLS = {
    "blocks": blocks,
    "widths": lambda page: widths(page, 1, 4),
    "forced": lambda page: forced(page, 1, 4),
    "set_out": lambda page: set_out(page, 1, 4),
    "starts": lambda page: starts(page, 1, 4),
}


def some_page():
    return [["a", "bb", "c"], ["dddd", "e"], ["f"], ["g", "hhhhhh", "i"], ["j", "k", "l"]]


class HandedInTest(unittest.TestCase):
    def test_page_is_as_it_was(self):
        for name, call in CALLS.items():
            with self.subTest(name):
                page = some_page()
                lines = list(page)
                call(page)
                self.assertEqual(page, some_page())
                self.assertEqual([id(line) for line in page], [id(line) for line in lines])

    def test_refused_page_is_as_it_was(self):
        for name, call in CALLS.items():
            with self.subTest(name):
                page = [["a", "b"], ["a b", "c"], []]
                self.assertRaises(NoPage, call, page)
                self.assertEqual(page, [["a", "b"], ["a b", "c"], []])

    def test_page_is_as_it_was_where_the_spacing_is_refused(self):
        for call in (widths, forced, set_out, starts):
            page = some_page()
            self.assertRaises(NoSpacing, call, page, 0, 0)
            self.assertEqual(page, some_page())

    def test_change_of_the_page_changes_nothing_told(self):
        for name, call in CALLS.items():
            with self.subTest(name):
                page = some_page()
                told = call(page)
                kept = copy.deepcopy(told)
                page[0][0] = "aaaaaaaa"
                page[1].append("m")
                page.insert(0, ["n", "o"])
                page.pop()
                self.assertEqual(told, kept)

    def test_page_that_is_shown_is_as_it_was(self):
        page = some_page()
        told = shown(page)
        self.assertEqual(page, some_page())
        page[0][0] = "aaaaaaaa"
        self.assertNotEqual(shown(page), told)
        page = [["a", "b"], ["a b", "c"], []]
        self.assertRaises(NoPage, shown, page)
        self.assertEqual(page, [["a", "b"], ["a b", "c"], []])

    def test_changed_page_is_told_anew(self):
        page = [["a", "b"]]
        self.assertEqual((blocks(page), widths(page, 1, 0), forced(page, 1, 0)), ([(0, 0, 0)], [[2]], [(2, 0)]))
        page.append(["aaa", "b"])
        self.assertEqual(
            (blocks(page), widths(page, 1, 0), forced(page, 1, 0)),
            ([(0, 0, 1)], [[4], [4]], [(4, 1)]),
        )
        self.assertEqual((set_out(page, 1, 0), starts(page, 1, 0)), (["a   b", "aaa b"], [[0, 4], [0, 4]]))
        page[1][0] = "aa"
        self.assertEqual((set_out(page, 1, 0), starts(page, 1, 0)), (["a  b", "aa b"], [[0, 3], [0, 3]]))

    def test_one_list_may_stand_for_several_lines(self):
        line = ["a", "b", "c"]
        page = [line, line, line]
        self.assertEqual(blocks(page), [(0, 0, 2), (1, 0, 2)])
        told = widths(page, 1, 0)
        told[0].append(9)
        self.assertEqual(told, [[2, 2, 9], [2, 2], [2, 2]])
        self.assertEqual(line, ["a", "b", "c"])


class ToldTest(unittest.TestCase):
    def test_change_of_what_was_told_changes_nothing_told_next(self):
        for name, call in CALLS.items():
            with self.subTest(name):
                page = some_page()
                kept = copy.deepcopy(call(page))
                told = call(page)
                told.reverse()
                told.append("more")
                self.assertEqual(call(page), kept)
                self.assertEqual(page, some_page())

    def test_change_of_what_was_told_changes_nothing_told_before(self):
        for name, call in CALLS.items():
            with self.subTest(name):
                before = call(some_page())
                kept = copy.deepcopy(before)
                call(some_page()).clear()
                self.assertEqual(before, kept)

    def test_empty_answers_are_not_one_list(self):
        for name, call in (("blocks", blocks), ("forced", CALLS["forced"])):
            with self.subTest(name):
                call([["a"]]).append("more")
                self.assertEqual(call([["a"]]), [])

    def test_change_of_one_lines_list_changes_no_other(self):
        page = some_page() + [["m"], ["n"]]
        for call in (CALLS["widths"], CALLS["starts"]):
            for number in range(len(page)):
                told = call(page)
                kept = copy.deepcopy(told)
                told[number].append(99)
                kept[number] = kept[number] + [99]
                self.assertEqual(told, kept)
                self.assertEqual(call(page)[number] + [99], told[number])

    def test_no_two_lists_for_lines_are_one(self):
        page = some_page() + [["m"], ["n"]]
        for call in (CALLS["widths"], CALLS["starts"]):
            first, second = call(page), call(page)
            lists = [first, second] + first + second
            self.assertEqual(len({id(one) for one in lists}), len(lists))
            self.assertFalse({id(one) for one in lists} & {id(one) for one in [page] + page})


if __name__ == "__main__":
    unittest.main()
