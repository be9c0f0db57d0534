"""Rows put into a tree and taken out of it, with new pages on the way to the row alone."""

from twigtable.errors import NoRow
from twigtable.seeks import last_up_to, seek
from twigtable.trees import built, crowned, heads_of


def put(pages, root, key, cells):
    row = (key, cells)
    if root is None:
        return built(pages, [row])
    level = pages.card(root)[0]
    return crowned(pages, level, heads_with(pages, root, row))


# The heads of the pages, of the same level, that stand in the place of a page when the row is put under it.
def heads_with(pages, number, row):
    page = pages.page(number)
    at = last_up_to(page.entries, row[0])
    if page.level == 0:
        return heads_of(pages, 0, rows_with(list(page.rows), at, row))
    # A row ahead of all others goes under the first head, for there is none to its left.
    way = max(at, 0)
    heads = list(page.heads)
    inner = heads_with(pages, heads[way][1], row)
    return heads_of(pages, page.level, heads[:way] + inner + heads[way + 1:])


def rows_with(rows, at, row):
    if at >= 0 and rows[at][0] == row[0]:
        return rows[:at] + [row] + rows[at + 1:]
    return rows[:at + 1] + [row] + rows[at + 1:]


def take(pages, root, key):
    if seek(pages, root, key)[0] is None:
        raise NoRow(key)
    return lowered(pages, heads_without(pages, root, key))


# The heads, none or one, that stand in the place of a page when the row of the key is taken from under it.
def heads_without(pages, number, key):
    page = pages.page(number)
    at = last_up_to(page.entries, key)
    entries = list(page.entries)
    if page.level == 0:
        return heads_of(pages, 0, entries[:at] + entries[at + 1:])
    if at > 0 and entries[at][0] == key:
        # The key cut the tree here, so what it parted grows together again.
        inner = joined(pages, entries[at - 1][1], entries[at][1])
        return heads_of(pages, page.level, entries[:at - 1] + inner + entries[at + 1:])
    inner = heads_without(pages, entries[at][1], key)
    return heads_of(pages, page.level, entries[:at] + inner + entries[at + 1:])


# The one head of two neighbours put together without the first row under the right one.
def joined(pages, left, right):
    one = pages.page(left)
    entries = list(one.entries)
    others = list(pages.page(right).entries)
    if one.level == 0:
        return heads_of(pages, 0, entries + others[1:])
    inner = joined(pages, entries[-1][1], others[0][1])
    return heads_of(pages, one.level, entries[:-1] + inner + others[1:])


def lowered(pages, heads):
    if not heads:
        return None
    number = heads[0][1]
    under = pages.page(number).under()
    # A page over one page alone is no root.
    while len(under) == 1:
        number = under[0]
        under = pages.page(number).under()
    return number
