"""A key sought in a tree, and the rows of a stretch of it, with the pages that were looked at."""

from twigtable.words import before, place_of


# The place of the last entry whose key does not come behind the key; -1 where there is none.
def last_up_to(entries, key):
    place = place_of([entry[0] for entry in entries], key)
    if place < len(entries) and entries[place][0] == key:
        return place
    return place - 1


def seek(pages, root, key):
    path = []
    number = root
    while number is not None:
        path.append(number)
        page = pages.page(number)
        at = last_up_to(page.entries, key)
        if page.level == 0:
            return (cells_at(page.rows, at, key), path)
        number = page.heads[at][1] if at >= 0 else None
    return (None, path)


def cells_at(rows, at, key):
    if at < 0 or rows[at][0] != key:
        return None
    return rows[at][1]


def is_behind_high(key, high):
    return high is not None and before(high, key)


# An open low needs no question of its own, for None comes before every key.
def is_within(key, low, high):
    return not before(key, low) and not is_behind_high(key, high)


def is_looked_at(heads, at, low, high):
    if is_behind_high(heads[at][0], high):
        return False
    # What follows the last page under a twig begins with the key of what follows the twig, so low let it pass there.
    return at + 1 == len(heads) or before(low, heads[at + 1][0])


def looked_at(pages, number, low, high):
    seen = [number]
    page = pages.page(number)
    heads = page.heads if page.level > 0 else ()
    for at in range(len(heads)):
        if is_looked_at(heads, at, low, high):
            seen.extend(looked_at(pages, heads[at][1], low, high))
    return seen


def stretch(pages, root, low, high):
    if root is None or is_behind_high(pages.card(root)[1], high):
        return ([], [])
    seen = looked_at(pages, root, low, high)
    rows = []
    for number in seen:
        page = pages.page(number)
        if page.level == 0:
            rows.extend([row for row in page.rows if is_within(row[0], low, high)])
    return (rows, seen)
