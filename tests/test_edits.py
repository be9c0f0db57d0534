"""Points [33] and [34], and [2] to [4] for them: rows put and taken, and how few pages are new."""

import itertools
import unittest

from helper import (
    CELLS,
    GREATEST,
    GREATEST_TEXT,
    LEAST,
    LEAST_TEXT,
    MANY,
    MIXED,
    NOUGHT,
    NUMBERS,
    QuickCase,
    TABLES,
    TEXTS,
    many_keys,
    numbers_by_level,
    order,
    plain_tree,
    rows_by,
    shuffled,
    unfolded,
)

from twigtable.edits import put, take
from twigtable.errors import NoRow
from twigtable.pages import Pages
from twigtable.trees import built, numbers_of, rows_of

OTHER = (("a", "other"), ("c", (None, (1, 2))))


def rows_with(rows, key, cells):
    return sorted([row for row in rows if row[0] != key] + [(key, cells)], key=lambda row: order(row[0]))


def rows_without(rows, key):
    return [row for row in rows if row[0] != key]


class Edits(QuickCase):
    def new_pages(self, pages, old, new):
        before = numbers_by_level(pages, old)
        behind = numbers_by_level(pages, new)
        return [len([number for number in behind[at] if number not in before[at]]) for at in range(7)]

    def came(self, pages, old, new, old_rows, new_rows, most):
        """What came is the one tree of the new rows, few of its pages are new, and the old tree is as it was."""
        self.assertEqual(unfolded(pages, new), plain_tree(new_rows))
        self.assertEqual(rows_of(pages, new), new_rows)
        self.assertEqual(rows_of(pages, old), old_rows)
        self.assertLessEqual(max(self.new_pages(pages, old, new)), most)
        self.assertEqual(built(pages, new_rows), new)
        self.assertEqual(built(pages, old_rows), old)

    def put_and_held(self, pages, old, rows, key, cells):
        stood = pages.numbers()
        new = put(pages, old, key, cells)
        self.assertEqual(pages.numbers()[:len(stood)], stood)
        self.came(pages, old, new, rows, rows_with(rows, key, cells), 2)
        return new

    def take_and_held(self, pages, old, rows, key):
        stood = pages.numbers()
        new = take(pages, old, key)
        self.assertEqual(pages.numbers()[:len(stood)], stood)
        self.came(pages, old, new, rows, rows_without(rows, key), 1)
        return new


class Putting(Edits):
    def test_into_no_tree(self):
        for key, cells in itertools.product(MIXED, CELLS):
            pages = Pages()
            root = self.put_and_held(pages, None, [], key, cells)
            self.assertEqual(pages.page(root).told(), (0, ((key, cells),)))

    def test_new_keys_into_each_table(self):
        keys = [LEAST + 1, -7, 0, 2, GREATEST - 1, GREATEST, LEAST_TEXT, "  ", "ac", "~~", GREATEST_TEXT, NOUGHT]
        keys += [key for at in range(7) for key in (NUMBERS[at][2], TEXTS[at][2])]
        for name, rows in TABLES.items():
            for key in keys:
                with self.subTest(name, key=key):
                    pages = Pages()
                    self.put_and_held(pages, built(pages, rows), rows, key, OTHER)

    def test_in_the_place_of_the_row_with_the_key(self):
        for name, rows in TABLES.items():
            pages = Pages()
            root = built(pages, rows)
            for key, cells in rows if len(rows) < 300 else rows[::10]:
                with self.subTest(name, key=key):
                    self.put_and_held(pages, root, rows, key, OTHER)
                    self.put_and_held(pages, root, rows, key, ())
                    self.assertEqual(put(pages, root, key, cells), root)

    def test_at_most_one_page_of_each_level_is_new_for_other_cells(self):
        rows = rows_by(MANY)
        pages = Pages()
        root = built(pages, rows)
        for key in MANY[::20]:
            self.assertEqual(self.new_pages(pages, root, put(pages, root, key, OTHER)), [1] * 7)

    def test_ahead_of_a_first_key_of_each_level(self):
        # What was the first key cuts the tree as soon as another one stands ahead of it.
        for at in range(7):
            for first in NUMBERS[at] + TEXTS[at]:
                rows = rows_by([first, "~", GREATEST_TEXT, TEXTS[3][0] + "~"])
                for key in (LEAST, first - 1 if isinstance(first, int) else GREATEST):
                    with self.subTest(first=first, key=key):
                        pages = Pages()
                        self.put_and_held(pages, built(pages, rows), rows, key, OTHER)

    def test_between_neighbours_by_hand(self):
        pages = Pages()
        root = built(pages, [(0, ()), ("a", ())])
        self.assertEqual(pages.page(root).told(), (0, ((0, ()), ("a", ()))))
        root = put(pages, root, 1, (("x", 1),))
        self.assertEqual(pages.page(root).told(), (0, ((0, ()), (1, (("x", 1),)), ("a", ()))))
        # "ab" has level 3, and so the tree is seven pages high and wide.
        root = put(pages, root, "ab", ())
        self.assertEqual((pages.card(root), len(numbers_of(pages, root))), ((3, 0), 7))

    def test_keys_that_only_look_alike(self):
        pages = Pages()
        root = put(pages, put(pages, None, 5, ()), "5", OTHER)
        self.assertEqual(rows_of(pages, root), [(5, ()), ("5", OTHER)])


class Taking(Edits):
    def test_each_row_of_each_table(self):
        for name, rows in TABLES.items():
            pages = Pages()
            root = built(pages, rows)
            for key, cells in rows if len(rows) < 300 else rows[::4]:
                with self.subTest(name, key=key):
                    self.take_and_held(pages, root, rows, key)

    def test_the_only_row(self):
        for key in MIXED:
            pages = Pages()
            root = built(pages, [(key, OTHER)])
            self.assertIsNone(take(pages, root, key))
            self.assertEqual(rows_of(pages, root), [(key, OTHER)])

    def test_the_row_that_made_the_tree_high(self):
        for at in range(7):
            for key in NUMBERS[at] + TEXTS[at]:
                pages = Pages()
                rows = rows_by([LEAST, key, GREATEST_TEXT])
                root = built(pages, rows)
                self.assertEqual(pages.card(root), (at, LEAST))
                self.assertEqual(pages.card(take(pages, root, key)), (0, LEAST))
                self.take_and_held(pages, root, rows, key)
                # As the first one it cuts nothing.
                self.assertEqual(pages.card(take(pages, root, LEAST)), (0, key))
                self.take_and_held(pages, root, rows, LEAST)

    def test_two_of_a_level(self):
        for at in range(1, 7):
            for one, other in itertools.combinations(NUMBERS[at] + TEXTS[at], 2):
                rows = rows_by([LEAST, one, other, "~"])
                pages = Pages()
                root = built(pages, rows)
                for key, cells in rows:
                    self.take_and_held(pages, root, rows, key)

    def test_no_such_row(self):
        for name, rows in TABLES.items():
            pages = Pages()
            root = built(pages, rows)
            for key in (LEAST + 1, 2, GREATEST - 1, "  ", "aa", "~~", NUMBERS[6][0] - 1, TEXTS[6][0] + " "):
                with self.subTest(name, key=key):
                    self.assertNotIn(key, [one for one, cells in rows])
                    with self.assertRaises(NoRow) as refused:
                        take(pages, root, key)
                    self.assertEqual(refused.exception.key, key)
            self.assertEqual(rows_of(pages, root), rows)
            self.assertEqual(built(pages, rows), root)

    def test_from_no_tree(self):
        for key in MIXED:
            pages = Pages()
            with self.assertRaises(NoRow) as refused:
                take(pages, None, key)
            self.assertEqual(refused.exception.key, key)
            self.assertEqual(pages.numbers(), [])

    def test_keys_that_only_look_alike(self):
        pages = Pages()
        root = built(pages, [(5, ()), ("6", ())])
        for key in ("5", 6, "5 ", "6 "):
            with self.assertRaises(NoRow) as refused:
                take(pages, root, key)
            self.assertEqual(refused.exception.key, key)
            self.assertIs(isinstance(refused.exception.key, str), isinstance(key, str))

    def test_a_row_without_cells(self):
        pages = Pages()
        self.assertIsNone(take(pages, built(pages, [(5, ())]), 5))


class WhateverDeeds(Edits):
    def test_put_in_any_order(self):
        pages = Pages()
        rows = rows_by([LEAST, NUMBERS[1][0], TEXTS[2][0], TEXTS[6][0], "ab"])
        root = built(pages, rows)
        for some in itertools.permutations(rows):
            found = None
            for key, cells in some:
                found = put(pages, found, key, cells)
            self.assertEqual(found, root)

    def test_taken_in_any_order(self):
        pages = Pages()
        keys = [LEAST, NUMBERS[1][0], TEXTS[2][0], TEXTS[6][0], "ab"]
        stay = rows_by([NUMBERS[3][0], GREATEST_TEXT])
        rows = sorted(stay + rows_by(keys), key=lambda row: order(row[0]))
        root = built(pages, stay)
        for some in itertools.permutations(keys):
            found = built(pages, rows)
            for key in some:
                found = take(pages, found, key)
            self.assertEqual(found, root)

    def test_many_rows_put_and_taken(self):
        pages = Pages()
        rows = rows_by(MANY)
        target = built(pages, rows)
        for step in (1, 7, 299):
            root, have = None, []
            for key, cells in shuffled(rows, step):
                root = put(pages, root, key, cells)
            self.assertEqual(root, target)
            for at, (key, cells) in enumerate(shuffled(rows, step)):
                root = take(pages, root, key)
                if at % 50 == 0:
                    have = rows_of(pages, root)
                    self.assertEqual(built(pages, have), root)
            self.assertIsNone(root)

    def test_each_step_of_many(self):
        pages = Pages()
        rows, root = [], None
        for at, (key, cells) in enumerate(shuffled(rows_by(MIXED), 11)):
            root = self.put_and_held(pages, root, rows, key, cells)
            rows = rows_with(rows, key, cells)
            if at % 3 == 2:
                gone = rows[at % len(rows)][0]
                root = self.take_and_held(pages, root, rows, gone)
                rows = rows_without(rows, gone)
        for key in shuffled([key for key, cells in rows], 13):
            root = self.take_and_held(pages, root, rows, key)
            rows = rows_without(rows, key)
        self.assertIsNone(root)

    def test_there_and_back(self):
        pages = Pages()
        rows = rows_by(MANY)
        root = built(pages, rows)
        for key, cells in rows[::5]:
            self.assertEqual(put(pages, take(pages, root, key), key, cells), root)
            self.assertEqual(put(pages, put(pages, root, key, OTHER), key, cells), root)
        for key in ("new", 999999, LEAST + 1):
            self.assertEqual(take(pages, put(pages, root, key, OTHER), key), root)

    def test_six_hundred_rows(self):
        pages = Pages()
        rows = rows_by(many_keys(600))
        root = built(pages, rows[:-1])
        root = self.put_and_held(pages, root, rows[:-1], rows[-1][0], rows[-1][1])
        for key, cells in rows[::60]:
            self.take_and_held(pages, root, rows, key)

    def test_in_two_stores(self):
        one, other = Pages(), Pages()
        root = built(one, rows_by(MIXED))
        self.assertEqual(built(other, rows_by(MIXED)), root)
        count = other.dealt()
        put(one, root, "more", OTHER)
        take(one, root, MIXED[0])
        self.assertEqual((other.dealt(), rows_of(other, root)), (count, rows_by(MIXED)))


if __name__ == "__main__":
    unittest.main()
