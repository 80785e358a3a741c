"""The blocks of a page, the widths of its closed cells, and what forces them."""

from evencolumns.checks import require_page, require_page_and_spacing


def blocks(page):
    require_page(page)
    return found_blocks(page)


def widths(page, gap, least):
    require_page_and_spacing(page, gap, least)
    return found_widths(page, gap, least)


def forced(page, gap, least):
    require_page_and_spacing(page, gap, least)
    told = []
    for column, first, last in found_blocks(page):
        cells = block_cells(page, column, first, last)
        width = block_width(cells, gap, least)
        told.append((width, forcing_line(cells, first, width - gap)))
    return told


def found_blocks(page):
    found = []
    for column in range(max([closed_count(line) for line in page])):
        found.extend(column_blocks(page, column))
    return found


def found_widths(page, gap, least):
    found = [[] for line in page]
    # Blocks come by columns, so each line gets its widths from left to right.
    for column, first, last in found_blocks(page):
        width = block_width(block_cells(page, column, first, last), gap, least)
        for number in range(first, last + 1):
            found[number].append(width)
    return found


def column_blocks(page, column):
    found = []
    first = 0
    for number, line in enumerate(page):
        if closed_count(line) <= column:
            first = number + 1
        elif ends_stretch(page, column, number):
            found.append((column, first, number))
    return found


def ends_stretch(page, column, number):
    return number + 1 == len(page) or closed_count(page[number + 1]) <= column


def closed_count(line):
    # The last cell is the open one.
    return len(line) - 1


def block_cells(page, column, first, last):
    return [line[column] for line in page[first:last + 1]]


def block_width(cells, gap, least):
    return max(max([len(cell) for cell in cells]) + gap, least)


def forcing_line(cells, first, length):
    # No cell has this length where the least width decides.
    for number, cell in enumerate(cells, start=first):
        if len(cell) == length:
            return number
    return None
