"""A page that is changed deed by deed."""

from evencolumns.checks import MOST_LINES, is_cell, is_line, require_page_and_spacing
from evencolumns.errors import Full, NoColumn, NoLine, NoPage, OnlyLine
from evencolumns.setting import set_out


class Sheet:
    def __init__(self, page, gap, least):
        require_page_and_spacing(page, gap, least)
        self.kept = copied(page)
        self.gap = gap
        self.least = least
        self.changed = []

    def page(self):
        return copied(self.kept)

    def lines(self):
        return set_out(self.kept, self.gap, self.least)

    def touched(self):
        return list(self.changed)

    def put(self, line, column, cell):
        require_number(line, len(self.kept))
        if not 0 <= column < len(self.kept[line]):
            raise NoColumn("the line has no such column")
        if not is_cell(cell):
            raise NoPage("not a cell")
        ahead = self.lines()
        self.kept[line][column] = cell
        self.changed = differing(ahead, self.lines())

    def put_in(self, line, cells):
        # Behind the last line is a place, too.
        require_number(line, len(self.kept) + 1)
        if not is_line(cells):
            raise NoPage("not a line")
        if len(self.kept) == MOST_LINES:
            raise Full("no room for another line")
        ahead = self.lines()
        # None is no text, so the new line always differs from what was there.
        ahead.insert(line, None)
        self.kept.insert(line, list(cells))
        self.changed = differing(ahead, self.lines())

    def take_out(self, line):
        require_number(line, len(self.kept))
        if len(self.kept) == 1:
            raise OnlyLine("the only line stays")
        ahead = self.lines()
        ahead.pop(line)
        cells = self.kept.pop(line)
        self.changed = differing(ahead, self.lines())
        return cells


def copied(page):
    return [list(line) for line in page]


def require_number(line, end):
    if not 0 <= line < end:
        raise NoLine("no such line")


def differing(ahead, behind):
    return [number for number, text in enumerate(behind) if text != ahead[number]]
