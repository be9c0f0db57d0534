"""Points [24] to [26], and [2] to [4] for them: cutting, the tree of a list of rows, its rows and numbers."""

import itertools
import unittest

from helper import (
    CELLS,
    GREATEST,
    GREATEST_TEXT,
    LEAST,
    LEAST_TEXT,
    MANY,
    MIXED,
    NOUGHT,
    NUMBERS,
    PRIME,
    QuickCase,
    TABLES,
    TEXTS,
    everything,
    level,
    many_keys,
    numbers_by_level,
    order,
    plain_cut,
    plain_levels,
    plain_tree,
    rows_by,
    unfolded,
)

from twigtable.errors import NoPage, NotRising
from twigtable.pages import Leaf, Pages, Twig
from twigtable.trees import built, crowned, cut, numbers_of, rows_of


class Cutting(QuickCase):
    def test_by_hand(self):
        # The levels of 0, 1, "a" and "ab" are 0, 0, 0 and 3.
        rows = rows_by([0, 1, "a", "ab"])
        for at in range(3):
            self.assertEqual(cut(rows, at), [rows[:3], rows[3:]])
        for at in range(3, 7):
            self.assertEqual(cut(rows, at), [rows])

    def test_no_entries(self):
        for at in range(7):
            self.assertEqual(cut([], at), [])
            self.assertEqual(cut((), at), [])

    def test_ahead_of_each_key_of_a_level_above(self):
        for keys in (NUMBERS, TEXTS):
            for key_level, at in itertools.product(range(7), range(7)):
                entries = [(LEAST, 4), (keys[key_level][0], 5), (GREATEST_TEXT, 6)]
                with self.subTest(key_level=key_level, at=at):
                    self.assertEqual(level(GREATEST_TEXT), 0)
                    parts = [entries[:1], entries[1:]] if key_level > at else [entries]
                    self.assertEqual(cut(entries, at), parts)

    def test_never_ahead_of_the_first(self):
        for key_level, at in itertools.product(range(7), range(7)):
            for key in NUMBERS[key_level] + TEXTS[key_level]:
                self.assertEqual(cut([(key, ())], at), [[(key, ())]])
                self.assertEqual(cut([(key, 7), (GREATEST_TEXT, 6)], at), [[(key, 7), (GREATEST_TEXT, 6)]])

    def test_many_entries(self):
        for name, rows in TABLES.items():
            for at in range(7):
                with self.subTest(name, at=at):
                    parts = cut(rows, at)
                    self.assertEqual(parts, plain_cut(rows, at))
                    self.assertEqual([row for part in parts for row in part], rows)
                    self.assertNotIn([], parts)
                    self.assertEqual(cut(tuple(rows), at), parts)

    def test_heads_as_rows(self):
        heads = [(key, at) for at, key in enumerate(MANY)]
        for at in range(7):
            self.assertEqual(cut(heads, at), plain_cut(heads, at))

    def test_what_is_handed_in_stays_and_what_comes_is_new(self):
        entries = rows_by(MIXED)
        copy = list(entries)
        for at in (0, 6):
            parts = cut(entries, at)
            self.assertIsInstance(parts, list)
            for part in parts:
                self.assertIsInstance(part, list)
                part.clear()
            parts.clear()
            self.assertEqual(entries, copy)


class Building(QuickCase):
    def test_by_hand(self):
        # "ab" has level 3: the tree is cut ahead of it below level 3, and its heads meet there.
        rows = rows_by([0, 1, "a", "ab"])
        pages = Pages()
        root = built(pages, rows)
        top, heads = pages.page(root).told()
        self.assertEqual((top, [key for key, number in heads]), (3, [0, "ab"]))
        for at, (key, number) in enumerate(heads):
            for twig_level in (2, 1):
                told = pages.page(number).told()
                self.assertEqual((told[0], [one for one, under in told[1]]), (twig_level, [key]))
                number = told[1][0][1]
            self.assertEqual(pages.page(number).told(), (0, tuple(rows[:3] if at == 0 else rows[3:])))
        self.assertEqual(len(pages.numbers()), 7)

    def test_no_rows(self):
        pages = Pages()
        self.assertIsNone(built(pages, []))
        self.assertEqual((pages.dealt(), pages.numbers()), (0, []))

    def test_one_row(self):
        for key in MIXED:
            for cells in CELLS:
                pages = Pages()
                root = built(pages, [(key, cells)])
                self.assertEqual((root, pages.numbers(), pages.page(root).told()), (0, [0], (0, ((key, cells),))))

    def test_one_leaf_of_keys_of_level_0(self):
        rows = rows_by([LEAST_TEXT, GREATEST_TEXT] + NUMBERS[0] + TEXTS[0])
        self.assertEqual({level(key) for key, cells in rows[1:]}, {0})
        pages = Pages()
        self.assertEqual(pages.page(built(pages, rows)).told(), (0, tuple(rows)))

    def test_two_rows_of_each_level(self):
        # A second key of a level above 0 brings the root to just that level.
        for at in range(7):
            for key in NUMBERS[at] + TEXTS[at]:
                pages = Pages()
                root = built(pages, rows_by([LEAST, key]))
                self.assertEqual(pages.card(root), (at, LEAST))
                self.assertEqual(len(numbers_of(pages, root)), 2 * at + 1)

    def test_a_key_whose_mixed_number_is_nought(self):
        for key in (NOUGHT, NOUGHT - PRIME):
            pages = Pages()
            self.assertEqual(pages.card(built(pages, rows_by([LEAST, key]))), (6, LEAST))

    def test_the_tree_is_the_plain_one(self):
        for name, rows in TABLES.items():
            with self.subTest(name):
                pages = Pages()
                root = built(pages, rows)
                self.assertEqual(unfolded(pages, root), plain_tree(rows))
                self.assertEqual(len(pages.numbers()), sum(len(some) for some in plain_levels(rows)))
                self.assertEqual(sorted(numbers_of(pages, root)), pages.numbers())

    def test_of_as_many_rows_as_there_may_be(self):
        for count in (299, 300, 599, 600):
            rows = rows_by(many_keys(count))
            pages = Pages()
            root = built(pages, rows)
            self.assertEqual(unfolded(pages, root), plain_tree(rows))
            self.assertEqual(rows_of(pages, root), rows)

    def test_of_every_stretch_of_some_rows(self):
        rows = rows_by(MIXED)
        pages = Pages()
        for start, end in itertools.combinations(range(0, len(rows) + 1, 2), 2):
            self.assertEqual(unfolded(pages, built(pages, rows[start:end])), plain_tree(rows[start:end]))

    def test_what_a_page_has(self):
        pages = Pages()
        root = built(pages, rows_by(MANY))
        for number in numbers_of(pages, root):
            at, entries = pages.page(number).told()
            self.assertEqual([level(entry[0]) for entry in entries[1:]], [at] * (len(entries) - 1))
            self.assertEqual([order(entry[0]) for entry in entries], sorted(order(entry[0]) for entry in entries))
            if at > 0:
                self.assertEqual([pages.card(under) for key, under in entries], [(at - 1, key) for key, under in entries])
        self.assertGreater(pages.page(root).many(), 1)
        self.assertEqual(pages.card(root), (6, MANY[0]))

    def test_the_same_rows_are_one_number(self):
        pages = Pages()
        roots = {name: built(pages, rows) for name, rows in TABLES.items()}
        copy = everything(pages)
        for name, rows in TABLES.items():
            self.assertEqual(built(pages, list(rows)), roots[name])
        self.assertEqual(everything(pages), copy)

    def test_unlike_rows_are_unlike_numbers(self):
        rows = rows_by(MIXED)
        pages = Pages()
        roots = {built(pages, rows)}
        for at in range(len(rows)):
            roots.add(built(pages, rows[:at] + rows[at + 1:]))
            roots.add(built(pages, rows[:at] + [(rows[at][0], (("other", 1),))] + rows[at + 1:]))
        self.assertEqual(len(roots), 2 * len(rows) + 1)

    def test_in_a_store_that_has_other_pages(self):
        pages = Pages()
        pages.skip(10**29 - 1000)
        pages.kept(Twig(6, [(5, 5)]))
        for rows in TABLES.values():
            self.assertEqual(unfolded(pages, built(pages, rows)), plain_tree(rows))

    def test_pages_that_were_dropped_are_kept_anew(self):
        pages = Pages()
        rows = rows_by(MANY)
        root = built(pages, rows)
        gone = numbers_of(pages, root)[::3]
        for number in gone:
            pages.drop(number)
        again = built(pages, rows)
        self.assertEqual(rows_of(pages, again), rows)
        self.assertEqual([number for number in gone if number in pages.numbers()], [])

    def test_what_is_handed_in_stays_and_changes_nothing_later(self):
        rows = rows_by(MANY)
        copy = list(rows)
        pages = Pages()
        root = built(pages, rows)
        self.assertEqual(rows, copy)
        rows.clear()
        self.assertEqual(rows_of(pages, root), copy)


class NotRisingRows(QuickCase):
    def refused(self, keys, key):
        pages = Pages()
        root = built(pages, rows_by(MIXED))
        rows = [(one, ()) for one in keys]
        with self.subTest(keys=keys):
            with self.assertRaises(NotRising) as refused:
                built(pages, rows)
            self.assertEqual(refused.exception.key, key)
            self.assertIs(isinstance(refused.exception.key, str), isinstance(key, str))
        self.assertEqual(rows, [(one, ()) for one in keys])
        self.assertEqual(rows_of(pages, root), rows_by(MIXED))
        self.assertEqual(built(pages, rows_by(MIXED)), root)

    def test_two_rows(self):
        for low, high in itertools.combinations_with_replacement(MIXED[::3] + [GREATEST, LEAST_TEXT], 2):
            one, other = sorted([low, high], key=order)
            self.refused([other, one], one)

    def test_the_first_one_is_told(self):
        self.refused([1, 5, 4, 3], 4)
        self.refused([1, 5, 5, 4], 5)
        self.refused([2, 1, 0], 1)
        self.refused([1, 2, 3, "a", 4, "b", "a"], 4)
        self.refused(["a", "b", "a", "c", 1], "a")
        self.refused(["a", "ab", "aa"], "aa")
        self.refused(["ab", "a"], "a")
        self.refused(["a", 5], 5)
        self.refused(["5", 5], 5)
        self.refused([9, 10, -9], -9)
        self.refused(["10", "9", "1"], "1")

    def test_it_is_held_against_the_row_ahead_alone(self):
        # 3 comes behind 2, which is the row ahead of it; the one to be told is 2.
        self.refused([1, 4, 2, 3], 2)

    def test_at_the_end_of_many(self):
        self.refused(MANY + [MANY[-1]], MANY[-1])
        self.refused(MANY + [MANY[0]], MANY[0])
        self.refused([MANY[1]] + MANY, MANY[0])

    def test_what_rises_is_not_refused(self):
        for keys in ([], [1], [GREATEST, LEAST_TEXT], [-2, -1], [5, "5"], ["a", "a "], ["A", "a"], ["10", "9"]):
            pages = Pages()
            rows = [(key, ()) for key in keys]
            self.assertEqual(rows_of(pages, built(pages, rows)), rows)


class Crowning(QuickCase):
    def test_no_heads_and_one(self):
        for at in range(7):
            pages = Pages()
            self.assertIsNone(crowned(pages, at, []))
            for key in (LEAST, NUMBERS[6][0], TEXTS[6][0], GREATEST_TEXT):
                self.assertEqual(crowned(pages, at, [(key, 12)]), 12)
            self.assertEqual((pages.dealt(), pages.numbers()), (0, []))

    def test_two_heads(self):
        # The second key has level 3, so they meet in a twig of level 3.
        for at in range(3):
            pages = Pages()
            root = crowned(pages, at, [(5, 100), ("ab", 200)])
            self.assertEqual(pages.card(root), (3, 5))
            self.assertEqual(pages.page(root).many(), 2)
            self.assertEqual(len(pages.numbers()), 2 * (2 - at) + 1)
            lowest = [pages.page(number).told() for number in pages.numbers() if pages.page(number).level == at + 1]
            told = [(3, ((5, 100), ("ab", 200)))] if at == 2 else [(at + 1, ((5, 100),)), (at + 1, (("ab", 200),))]
            self.assertEqual(sorted(lowest, key=lambda page: order(page[1][0][0])), told)

    def test_what_is_under_the_heads_need_not_stand(self):
        pages = Pages()
        root = crowned(pages, 5, [(1, 7), (NUMBERS[6][0] + 10**9 * PRIME, 8), ("a", 9)])
        self.assertEqual(pages.page(root).level, 6)

    def test_from_each_level_of_a_tree(self):
        for name, rows in TABLES.items():
            pages = Pages()
            root = built(pages, rows)
            copy = everything(pages)
            for at, numbers in numbers_by_level(pages, root).items():
                # Above the root there are no heads, and then it tells None.
                with self.subTest(name, at=at):
                    heads = [(pages.card(number)[1], number) for number in numbers]
                    self.assertEqual(crowned(pages, at, heads), root if heads else None)
                    self.assertEqual(heads, [(pages.card(number)[1], number) for number in numbers])
            self.assertEqual(everything(pages), copy)

    def test_in_a_store_that_has_the_leaves_alone(self):
        for name, rows in TABLES.items():
            with self.subTest(name):
                pages = Pages()
                leaves = [Leaf(part) for part in plain_cut(rows, 0)]
                heads = [(leaf.first(), pages.kept(leaf)) for leaf in leaves]
                copy = list(heads)
                root = crowned(pages, 0, heads)
                self.assertEqual(unfolded(pages, root), plain_tree(rows))
                self.assertEqual(heads, copy)
                heads.clear()
                self.assertEqual(unfolded(pages, root), plain_tree(rows))


class Reading(QuickCase):
    def test_of_none(self):
        pages = Pages()
        built(pages, rows_by(MIXED))
        self.assertEqual((rows_of(pages, None), numbers_of(pages, None)), ([], []))
        self.assertEqual((rows_of(Pages(), None), numbers_of(Pages(), None)), ([], []))

    def test_the_rows_that_were_handed_in(self):
        pages = Pages()
        roots = {name: built(pages, rows) for name, rows in TABLES.items()}
        for name, rows in TABLES.items():
            with self.subTest(name):
                self.assertEqual(rows_of(pages, roots[name]), rows)

    def test_a_leaf_as_root(self):
        pages = Pages()
        root = built(pages, rows_by(NUMBERS[0]))
        self.assertEqual(numbers_of(pages, root), [root])

    def test_each_twig_ahead_of_those_under_it(self):
        for name, rows in TABLES.items():
            pages = Pages()
            pages.skip(5)
            root = built(pages, rows)
            numbers = numbers_of(pages, root)
            with self.subTest(name):
                self.assertEqual(sorted(numbers), pages.numbers())
                self.assertEqual(numbers[:1], [root] if rows else [])
                self.assertEqual(numbers, self.walked(pages, root))

    def walked(self, pages, root):
        # By a list of the numbers that are yet to be told, the leftmost at its end.
        waiting, told = [root] if root is not None else [], []
        while waiting:
            number = waiting.pop()
            told.append(number)
            if pages.page(number).level > 0:
                waiting += [under for key, under in reversed(pages.page(number).heads)]
        return told

    def test_by_hand(self):
        pages = Pages()
        leaves = [pages.kept(Leaf([(at, ())])) for at in (4, 3, 2, 1)]
        right = pages.kept(Twig(1, [(3, leaves[1]), (4, leaves[0])]))
        left = pages.kept(Twig(1, [(1, leaves[3]), (2, leaves[2])]))
        root = pages.kept(Twig(2, [(1, left), (3, right)]))
        self.assertEqual(numbers_of(pages, root), [6, 5, 3, 2, 4, 1, 0])
        self.assertEqual(rows_of(pages, root), [(1, ()), (2, ()), (3, ()), (4, ())])

    def test_the_root_lacks(self):
        for number in (0, 7, 10**29 - 1):
            for told in (rows_of, numbers_of):
                with self.assertRaises(NoPage) as refused:
                    told(Pages(), number)
                self.assertEqual(refused.exception.number, number)

    def test_each_page_by_itself_lacks(self):
        rows = rows_by(MANY)
        pages = Pages()
        for number in numbers_of(pages, built(pages, rows)):
            pages = Pages()
            root = built(pages, rows)
            pages.drop(number)
            self.lacks(pages, root, number)

    def test_the_first_of_several_that_lack_is_told(self):
        pages = Pages()
        root = built(pages, rows_by(MANY))
        for number in reversed(numbers_of(pages, root)):
            pages.drop(number)
            self.lacks(pages, root, number)

    def test_a_leaf_on_the_left_goes_ahead_of_a_twig_on_the_right(self):
        pages = Pages()
        root = built(pages, rows_by(MANY))
        found = numbers_by_level(pages, root)
        pages.drop(found[1][-1])
        self.lacks(pages, root, found[1][-1])
        pages.drop(found[0][0])
        self.lacks(pages, root, found[0][0])

    def lacks(self, pages, root, number):
        copy = everything(pages)
        for told in (rows_of, numbers_of):
            with self.assertRaises(NoPage) as refused:
                told(pages, root)
            self.assertEqual(refused.exception.number, number)
        self.assertEqual(everything(pages), copy)

    def test_lists_handed_back_are_the_askers_own(self):
        for name, rows in TABLES.items():
            pages = Pages()
            root = built(pages, rows)
            copy = everything(pages)
            for told in (rows_of, numbers_of):
                once = told(pages, root)
                self.assertIsInstance(once, list)
                kept = list(once)
                built(pages, rows_by(["more"]))
                self.assertEqual(once, kept)
                once.append("more")
                self.assertEqual(told(pages, root), kept)
            self.assertEqual([page for page in everything(pages)[1] if page in copy[1]], copy[1])

    def test_the_store_is_not_changed(self):
        pages = Pages()
        root = built(pages, rows_by(MANY))
        copy = everything(pages)
        rows_of(pages, root)
        numbers_of(pages, root)
        self.assertEqual(everything(pages), copy)


if __name__ == "__main__":
    unittest.main()
