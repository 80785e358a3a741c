"""What is a cell, a line, a page and a spacing, and the refusal of what is none."""

from evencolumns.errors import NoPage, NoSpacing

MOST_SIGNS = 8
MOST_CELLS = 6
MOST_LINES = 20
LEAST_GAP = 1
MOST_GAP = 4
LOWEST_LEAST = 0
HIGHEST_LEAST = 12


def is_cell(text):
    return len(text) <= MOST_SIGNS and all(["!" <= sign <= "~" for sign in text])


def is_line(cells):
    return 1 <= len(cells) <= MOST_CELLS and all([is_cell(cell) for cell in cells])


def is_page(lines):
    return 1 <= len(lines) <= MOST_LINES and all([is_line(line) for line in lines])


def is_spacing(gap, least):
    return LEAST_GAP <= gap <= MOST_GAP and LOWEST_LEAST <= least <= HIGHEST_LEAST


def require_page(page):
    if not is_page(page):
        raise NoPage("not a page")


def require_page_and_spacing(page, gap, least):
    # The page goes first: where both are wrong, NoPage is due.
    require_page(page)
    if not is_spacing(gap, least):
        raise NoSpacing("not a spacing")
