"""The one tree of a list of rows: cut and built, and its rows and page numbers told."""

from twigtable.errors import NotRising
from twigtable.levels import level_of
from twigtable.pages import page_of
from twigtable.words import before


def cut(entries, level):
    parts = []
    for entry in entries:
        if not parts or level_of(entry[0]) > level:
            parts.append([])
        parts[-1].append(entry)
    return parts


def heads_of(pages, level, entries):
    heads = []
    for part in cut(entries, level):
        page = page_of(level, part)
        heads.append((page.first(), pages.kept(page)))
    return heads


def crowned(pages, level, heads):
    top = level
    above = heads
    while len(above) > 1:
        top = top + 1
        above = heads_of(pages, top, above)
    return above[0][1] if above else None


def built(pages, rows):
    for at in range(1, len(rows)):
        if not before(rows[at - 1][0], rows[at][0]):
            raise NotRising(rows[at][0])
    return crowned(pages, 0, heads_of(pages, 0, rows))


def rows_of(pages, root):
    if root is None:
        return []
    return pages.page(root).spread(pages)


def numbers_of(pages, root):
    if root is None:
        return []
    numbers = [root]
    for number in pages.page(root).under():
        numbers.extend(numbers_of(pages, number))
    return numbers
