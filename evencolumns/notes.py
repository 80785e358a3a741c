"""A page written as a text, and read from one."""

from evencolumns.checks import is_page, require_page
from evencolumns.errors import NoText


def shown(page):
    require_page(page)
    return "\n".join(["\t".join(line) for line in page])


def read(text):
    page = [line.split("\t") for line in text.split("\n")]
    if not is_page(page):
        raise NoText("the text writes no page")
    return page
