"""Points [31] and [32], and [2] and [3] for them: a key sought, and the rows of a stretch."""

import itertools
import unittest

from helper import (
    GREATEST,
    GREATEST_TEXT,
    LEAST,
    LEAST_TEXT,
    MANY,
    MIXED,
    NUMBERS,
    QuickCase,
    TABLES,
    TEXTS,
    everything,
    numbers_by_level,
    order,
    rows_by,
)

from twigtable.errors import NoPage
from twigtable.pages import Pages
from twigtable.seeks import seek, stretch
from twigtable.trees import built, numbers_of, rows_of

# Keys at the ends of both ranges, and keys that stand between those of the tables.
ASKED = sorted(
    set(MIXED[::3] + [LEAST, LEAST + 1, -5, 0, 3, 7, GREATEST - 1, GREATEST, LEAST_TEXT, "  ", "k", "k 5", "row 4"])
    | {"~", "~" * 39, GREATEST_TEXT, NUMBERS[6][0] - 1, NUMBERS[6][0] + 1, TEXTS[6][0] + " "},
    key=order,
)


def plain_path(pages, root, key):
    """The path of [31]: on each level the last page whose first key does not come behind the key, under the one above."""
    if root is None:
        return []
    path = [root]
    while pages.page(path[-1]).level > 0:
        fit = [number for first, number in pages.page(path[-1]).heads if order(first) <= order(key)]
        if not fit:
            break
        path.append(fit[-1])
    return path


def plain_seen(pages, root, low, high):
    """The pages of [32], by its two rules asked of every page of the tree."""
    seen = []
    for numbers in numbers_by_level(pages, root).values():
        for at, number in enumerate(numbers):
            follower = pages.card(numbers[at + 1])[1] if at + 1 < len(numbers) else None
            first_fits = high is None or order(pages.card(number)[1]) <= order(high)
            next_fits = follower is None or low is None or order(follower) > order(low)
            if first_fits and next_fits:
                seen.append(number)
    return [number for number in numbers_of(pages, root) if number in seen]


def plain_stretch(rows, low, high):
    return [
        row
        for row in rows
        if (low is None or order(row[0]) >= order(low)) and (high is None or order(row[0]) <= order(high))
    ]


class Seeking(QuickCase):
    def test_none(self):
        for key in ASKED:
            self.assertEqual(seek(Pages(), None, key), (None, []))

    def test_every_row_and_what_is_between(self):
        for name, rows in TABLES.items():
            pages = Pages()
            pages.skip(3)
            root = built(pages, rows)
            cells = dict(rows)
            for key in ASKED + [key for key, some in rows]:
                with self.subTest(name, key=key):
                    found = seek(pages, root, key)
                    self.assertIsInstance(found, tuple)
                    self.assertEqual(found, (cells.get(key), plain_path(pages, root, key)))
                    self.assertIsInstance(found[1], list)

    def test_a_row_without_cells_is_a_row(self):
        pages = Pages()
        root = built(pages, [(5, ()), ("5", (("a", 1),))])
        self.assertEqual(seek(pages, root, 5)[0], ())
        self.assertIsNotNone(seek(pages, root, 5)[0])
        self.assertEqual(seek(pages, root, "5")[0], (("a", 1),))
        self.assertIsNone(seek(pages, root, "05")[0])
        self.assertIsNone(seek(pages, root, 55)[0])

    def test_by_hand(self):
        # Two leaves, 0 1 "a" and "ab", which meet in a twig of level 3.
        pages = Pages()
        root = built(pages, rows_by([0, 1, "a", "ab"]))
        numbers = numbers_of(pages, root)
        left, right = numbers[:4], numbers[:1] + numbers[4:]
        for key, path in ((0, left), (1, left), ("a", left), (GREATEST, left), ("aa", left), ("aa~", left)):
            self.assertEqual(seek(pages, root, key)[1], path)
        for key, path in (("ab", right), ("ab ", right), ("b", right), (GREATEST_TEXT, right)):
            self.assertEqual(seek(pages, root, key)[1], path)
        # Each head comes behind these, so the search ends at the root.
        for key in (-1, LEAST):
            self.assertEqual(seek(pages, root, key), (None, [root]))

    def test_ahead_of_all_rows_in_a_leaf(self):
        pages = Pages()
        root = built(pages, rows_by([7]))
        self.assertEqual(seek(pages, root, 6), (None, [root]))
        self.assertEqual(seek(pages, root, 8), (None, [root]))
        self.assertEqual(seek(pages, root, 7), (rows_by([7])[0][1], [root]))

    def test_pages_off_the_path_need_not_stand(self):
        rows = rows_by(MANY)
        for key in ASKED + MANY[::10]:
            pages = Pages()
            root = built(pages, rows)
            found = seek(pages, root, key)
            for number in pages.numbers():
                if number not in found[1]:
                    pages.drop(number)
            self.assertEqual(seek(pages, root, key), found)

    def test_a_page_on_the_path_lacks(self):
        rows = rows_by(MANY)
        pages = Pages()
        root = built(pages, rows)
        path = seek(pages, root, MANY[150])[1]
        self.assertEqual(len(path), 7)
        for number in reversed(path):
            pages.drop(number)
            with self.assertRaises(NoPage) as refused:
                seek(pages, root, MANY[150])
            self.assertEqual(refused.exception.number, number)

    def test_nothing_is_changed_and_the_path_is_the_askers_own(self):
        pages = Pages()
        root = built(pages, rows_by(MANY))
        copy = everything(pages)
        for key in ASKED:
            found = seek(pages, root, key)
            path = list(found[1])
            found[1].clear()
            self.assertEqual(seek(pages, root, key), (found[0], path))
        self.assertEqual(everything(pages), copy)
        seek(pages, None, 5)[1].append(1)
        self.assertEqual(seek(pages, None, 5), (None, []))


class Stretches(QuickCase):
    def told(self, pages, root, rows, low, high):
        with self.subTest(low=low, high=high):
            found = stretch(pages, root, low, high)
            self.assertIsInstance(found, tuple)
            self.assertEqual(found, (plain_stretch(rows, low, high), plain_seen(pages, root, low, high)))
            self.assertIsInstance(found[0], list)
            self.assertIsInstance(found[1], list)

    def test_none(self):
        for low, high in itertools.product([None, LEAST, 0, GREATEST_TEXT], repeat=2):
            self.assertEqual(stretch(Pages(), None, low, high), ([], []))

    def test_both_ends_open(self):
        for name, rows in TABLES.items():
            with self.subTest(name):
                pages = Pages()
                root = built(pages, rows)
                self.assertEqual(stretch(pages, root, None, None), (rows, numbers_of(pages, root)))

    def test_every_two_ends(self):
        # Of two keys as low and high both ways, so low comes behind high, too.
        for name, rows in TABLES.items():
            if name != "300 rows":
                pages = Pages()
                root = built(pages, rows)
                for low, high in itertools.product([None] + ASKED, repeat=2):
                    self.told(pages, root, rows, low, high)

    def test_in_many_rows(self):
        rows = rows_by(MANY)
        pages = Pages()
        pages.skip(9)
        root = built(pages, rows)
        for low, high in itertools.product([None] + ASKED[::2], repeat=2):
            self.told(pages, root, rows, low, high)
        for at in range(0, 300, 7):
            self.told(pages, root, rows, MANY[at], MANY[at])
            self.told(pages, root, rows, MANY[at], None)
            self.told(pages, root, rows, None, MANY[at])
            self.told(pages, root, rows, MANY[at], MANY[min(at + 20, 299)])
            self.told(pages, root, rows, MANY[min(at + 20, 299)], MANY[at])

    def test_at_every_first_key_of_a_page(self):
        rows = rows_by(MIXED)
        pages = Pages()
        root = built(pages, rows)
        firsts = sorted({pages.card(number)[1] for number in numbers_of(pages, root)}, key=order)
        for low, high in itertools.product(firsts, repeat=2):
            self.told(pages, root, rows, low, high)

    def test_by_hand(self):
        pages = Pages()
        rows = rows_by([0, 1, "a", "ab"])
        root = built(pages, rows)
        numbers = numbers_of(pages, root)
        left, right = numbers[:4], numbers[:1] + numbers[4:]
        self.assertEqual(stretch(pages, root, 1, "aa"), (rows[1:3], left))
        self.assertEqual(stretch(pages, root, 0, "a"), (rows[:3], left))
        self.assertEqual(stretch(pages, root, "aa", "b"), (rows[3:], numbers))
        self.assertEqual(stretch(pages, root, "ab", None), (rows[3:], right))
        self.assertEqual(stretch(pages, root, None, "aa"), (rows[:3], left))
        self.assertEqual(stretch(pages, root, None, "ab"), (rows, numbers))
        self.assertEqual(stretch(pages, root, "b", None), ([], right))
        # The first key comes behind high, so the root is not told either.
        self.assertEqual(stretch(pages, root, None, -1), ([], []))
        self.assertEqual(stretch(pages, root, LEAST, -1), ([], []))
        self.assertEqual(stretch(pages, root, None, 0), (rows[:1], left))
        # A low that comes behind high, in one leaf and in two.
        self.assertEqual(stretch(pages, root, "a", 0), ([], left))
        self.assertEqual(stretch(pages, root, "b", 0), ([], [root]))
        self.assertEqual(stretch(pages, root, "b", "ab"), ([], right))

    def test_a_row_by_itself(self):
        pages = Pages()
        rows = rows_by([7])
        root = built(pages, rows)
        for low, high in itertools.product([None, 6, 7], [None, 7, 8, "a"]):
            self.assertEqual(stretch(pages, root, low, high), (rows, [root]))
        self.assertEqual(stretch(pages, root, 8, None), ([], [root]))
        self.assertEqual(stretch(pages, root, 8, 7), ([], [root]))
        self.assertEqual(stretch(pages, root, None, 6), ([], []))

    def test_pages_that_are_not_told_need_not_stand(self):
        rows = rows_by(MANY)
        ends = [None] + ASKED[::5] + MANY[::60]
        for low, high in itertools.product(ends, repeat=2):
            pages = Pages()
            root = built(pages, rows)
            found = stretch(pages, root, low, high)
            for number in pages.numbers():
                if number not in found[1] and number != root:
                    pages.drop(number)
            with self.subTest(low=low, high=high):
                self.assertEqual(stretch(pages, root, low, high), found)

    def test_nothing_is_changed_and_what_comes_is_the_askers_own(self):
        rows = rows_by(MANY)
        pages = Pages()
        root = built(pages, rows)
        copy = everything(pages)
        for low, high in itertools.product([None, -100, "a"], repeat=2):
            found = stretch(pages, root, low, high)
            told = (list(found[0]), list(found[1]))
            found[0].append("more")
            found[1].append("more")
            self.assertEqual(stretch(pages, root, low, high), told)
        self.assertEqual(everything(pages), copy)
        self.assertEqual(rows_of(pages, root), rows)
        stretch(pages, None, None, None)[0].append(1)
        self.assertEqual(stretch(pages, None, None, None), ([], []))


if __name__ == "__main__":
    unittest.main()
