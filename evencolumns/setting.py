"""The lines of a page set out, the places of their cells, and a line cut back to cells."""

from evencolumns.blocks import found_widths
from evencolumns.checks import is_cell, require_page_and_spacing
from evencolumns.errors import NoCut


def set_out(page, gap, least):
    require_page_and_spacing(page, gap, least)
    all_widths = found_widths(page, gap, least)
    return [set_line(line, all_widths[number]) for number, line in enumerate(page)]


def starts(page, gap, least):
    require_page_and_spacing(page, gap, least)
    return [line_starts(line_widths) for line_widths in found_widths(page, gap, least)]


def cut(text, widths):
    cells = []
    place = 0
    for width in widths:
        cells.append(cut_piece(text[place:place + width], width))
        place = place + width
    cells.append(cut_rest(text[place:]))
    return cells


def set_line(cells, line_widths):
    text = ""
    for column, width in enumerate(line_widths):
        text = text + cells[column].ljust(width)
    # The last cell has no width: nothing is put behind it.
    return text + cells[-1]


def line_starts(line_widths):
    places = [0]
    for width in line_widths:
        places.append(places[-1] + width)
    return places


def cut_piece(piece, width):
    if len(piece) != width:
        raise NoCut("too few signs")
    # Blanks alone are dropped: a tab or a line end behind a cell is no blank.
    cell = piece.rstrip(" ")
    if cell == piece or not is_cell(cell):
        raise NoCut("not a cell with a blank behind it")
    return cell


def cut_rest(rest):
    if not is_cell(rest):
        raise NoCut("the rest is not a cell")
    return rest
