"""What several tests share: keys of each level, tables of rows, and the tree worked out plainly from the document."""

import reprlib
import unittest

from twigtable.trees import numbers_of

BOUND = 10**30
PRIME = 2147483647
LEAST, GREATEST = 1 - BOUND, BOUND - 1
LEAST_TEXT, GREATEST_TEXT = " ", "~" * 40


class QuickCase(unittest.TestCase):
    """A test whose failures are told in short: to work out how two large trees differ takes minutes."""

    def assertEqual(self, first, second, msg=None):
        if first != second:
            self.fail(msg or f"{reprlib.repr(first)} != {reprlib.repr(second)}")


def order(key):
    """Numbers ahead of texts, then by greatness or by the signs, as [12] tells."""
    return (isinstance(key, str), key)


def level(key):
    """The level of a key, worked out from [21] by itself."""
    if isinstance(key, str):
        mix = 7
        for sign in key:
            mix = (mix * 131 + ord(sign)) % PRIME
    else:
        mix = (key * 48271 + 11) % PRIME
    mix = mix ^ (mix >> 15)
    return next((count for count in range(6) if mix % 4 ** (count + 1)), 6)


def keys_by_level(keys, count):
    """For each level from 0 to 6 the first so many of the keys that have it."""
    found = {at: [] for at in range(7)}
    for key in keys:
        if len(found[level(key)]) < count:
            found[level(key)].append(key)
    assert all(len(some) == count for some in found.values()), found
    return found


# The mixed number of this key is nought, so it has level 6, too.
NOUGHT = (0 - 11) * pow(48271, -1, PRIME) % PRIME
NUMBERS = keys_by_level(range(-20000, 20000), 3)
TEXTS = keys_by_level([f"k {number}" for number in range(40000)], 3)
# Numbers and texts of each level, and the ends of both ranges.
MIXED = sorted(
    [key for at in range(7) for key in NUMBERS[at][:2] + TEXTS[at][:2]]
    + [NOUGHT, NOUGHT - PRIME, LEAST, -1, 0, 1, GREATEST, LEAST_TEXT, "!", "0", "a", "ab", "~", GREATEST_TEXT],
    key=order,
)
CELLS = [
    (),
    (("a", 1),),
    (("a", ""), ("b", "x y")),
    (("b", (5, (None, "a"))),),
    (("a", LEAST), ("b", GREATEST), ("c", GREATEST_TEXT)),
    (("a", (None, tuple(range(60)))), ("zzzzzzzzzzzz", 0)),
    tuple((chr(97 + at // 26) + chr(97 + at % 26), at) for at in range(30)),
]


def rows_by(keys):
    """A row for each of the keys, rising, of all sorts of cells."""
    return [(key, CELLS[at % len(CELLS)]) for at, key in enumerate(sorted(keys, key=order))]


def shuffled(things, step):
    """All of the things in another order, always the same one: step has no factor in common with their count."""
    return [things[at * step % len(things)] for at in range(len(things))]


class Dice:
    """Numbers that look like chance and are the same each time."""

    def __init__(self, seed):
        self.state = seed * 7919 + 1

    def below(self, count):
        self.state = (self.state * 6364136223846793005 + 1442695040888963407) % 2**64
        return (self.state >> 33) % count

    def one_of(self, things):
        return things[self.below(len(things))]


def many_keys(count):
    """So many keys: all of the mixed ones, and numbers and texts by turns beside them."""
    keys = list(MIXED)
    at = 0
    while len(keys) < count:
        key = at * 7 - 300 if at % 2 else f"row {at}"
        if key not in keys:
            keys.append(key)
        at += 1
    return sorted(keys, key=order)[:count]


MANY = many_keys(300)
TABLES = {
    "no row": [],
    "one row": rows_by([7]),
    "one row of level 6": rows_by([NUMBERS[6][0]]),
    "two rows": rows_by([LEAST, GREATEST_TEXT]),
    "level 0 alone": rows_by(NUMBERS[0] + TEXTS[0]),
    "level 6 alone": rows_by(NUMBERS[6] + TEXTS[6] + [NOUGHT]),
    "by hand": rows_by([0, 1, "a", "ab"]),
    "mixed": rows_by(MIXED),
    "300 rows": rows_by(MANY),
}
for at in range(1, 7):
    # Of one level alone, and a row of level 0 ahead of the others.
    TABLES[f"level {at} behind 0"] = rows_by([LEAST] + NUMBERS[at] + TEXTS[at])


# Thirty columns, rising: of one letter, of twelve, and such as begin another one.
WORDS = sorted([chr(97 + at) for at in range(26)] + ["aa", "ab", "a" * 12, "z" * 12])
CLASHES = [(None, (1, 2)), (5, (None, "a")), ("", (LEAST, GREATEST, "", GREATEST_TEXT)), (0, tuple(range(60)))]
PLAIN = [None, 0, 1, -1, LEAST, GREATEST, "", " ", "x y", "~", GREATEST_TEXT, "0"]
# What is no plain value, no key and no word.
NEVER = [
    True, False, 1.0, BOUND, -BOUND, "~" * 41, "per%cent", "a\nb", "\x7f", "\u00e9", b"a", [], {}, ["a"], ("a",), object(),
]


def rows_of_columns(columns, keys, values):
    """A row for each of the keys; the cells are of the values by turns, and those of every fifth row are all empty."""
    rows = []
    for at, key in enumerate(sorted(keys, key=order)):
        cells = {column: values[(at * 3 + place * 5) % len(values)] for place, column in enumerate(columns)}
        rows.append((key, () if at % 5 == 4 else plain_cells(cells)))
    return rows


def plain_cells(values):
    """The cells of [35] of a dict from columns to values."""
    return tuple((column, values[column]) for column in sorted(values) if values[column] is not None)


def plain_row(columns, cells):
    """The dict of [38]: each of the columns, rising, with its value or None."""
    return {column: dict(cells).get(column) for column in sorted(columns)}


# Tables as pairs of columns and rows.
SHEETS = {
    "nothing": ([], []),
    "no column, one row": ([], [(7, ())]),
    "no column, many rows": ([], [(key, ()) for key in MIXED]),
    "one column, no row": (["a"], []),
    "one column, one row": (["a"], [(7, (("a", "x"),))]),
    "one column, one empty row": (["a"], [("k", ())]),
    "one column": (["zzzzzzzzzzzz"], rows_of_columns(["zzzzzzzzzzzz"], MIXED, PLAIN + CLASHES)),
    "30 columns, no row": (WORDS, []),
    "30 columns, one row": (WORDS, rows_of_columns(WORDS, [LEAST], [3, "x", None])),
    "30 columns, empty rows": (WORDS, [(key, ()) for key in MIXED]),
    "clashes alone": (["a", "b"], rows_of_columns(["a", "b"], MIXED, CLASHES)),
    "300 rows": (["a", "c", "m"], rows_of_columns(["a", "c", "m"], MANY, PLAIN + CLASHES)),
    "30 columns, 300 rows": (WORDS, rows_of_columns(WORDS, MANY, PLAIN + CLASHES)),
}


def plain_cut(entries, at_level):
    """The parts of [24], by the places of the cuts."""
    cuts = [at for at in range(1, len(entries)) if level(entries[at][0]) > at_level]
    starts = [0] + cuts if entries else []
    ends = cuts + [len(entries)] if entries else []
    return [list(entries[start:end]) for start, end in zip(starts, ends)]


def plain_levels(rows):
    """All pages of the tree of [25], level by level, each with its pages in the place of their numbers."""
    levels = [[(0, tuple(part)) for part in plain_cut(rows, 0)]]
    while len(levels[-1]) > 1:
        heads = [(first_key(page), page) for page in levels[-1]]
        levels.append([(len(levels), tuple(part)) for part in plain_cut(heads, len(levels))])
    return levels


def plain_tree(rows):
    """The tree of [25] as its root, None where there is none."""
    top = plain_levels(rows)[-1]
    return top[0] if top else None


def first_key(page):
    return page[1][0][0]


def unfolded(pages, root):
    """The tree that stands in the store, in the form of plain_tree."""
    if root is None:
        return None
    at, entries = pages.page(root).told()
    if at == 0:
        return (0, entries)
    return (at, tuple((key, unfolded(pages, number)) for key, number in entries))


def numbers_by_level(pages, root):
    """The numbers of the tree's pages for each level, from the left."""
    found = {at: [] for at in range(7)}
    for number in numbers_of(pages, root):
        found[pages.page(number).level].append(number)
    return found


def everything(pages):
    """All that can be asked of a store."""
    return (pages.dealt(), [(number, pages.page(number).told()) for number in pages.numbers()])
