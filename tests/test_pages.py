"""Points [22] and [23], and [2] and [3] for them: pages, and a store of pages."""

import unittest

from helper import CELLS, GREATEST, GREATEST_TEXT, LEAST, LEAST_TEXT, MANY, MIXED, QuickCase, everything, rows_by

from twigtable.errors import NoPage
from twigtable.pages import Leaf, Page, Pages, Twig

ROWS = [(1, ()), (5, (("a", 2), ("b", "x"))), ("c", (("a", (5, (None, "a"))),))]
HEADS = [(1, 4), (7, 2), ("c", 9)]


def store_of(*kept):
    pages = Pages()
    for page in kept:
        pages.kept(page)
    return pages


class OnePage(QuickCase):
    def test_a_leaf(self):
        leaf = Leaf(ROWS)
        self.assertIsInstance(leaf, Page)
        self.assertEqual(leaf.level, 0)
        self.assertEqual(leaf.rows, tuple(ROWS))
        self.assertIsInstance(leaf.rows, tuple)
        self.assertEqual(leaf.told(), (0, tuple(ROWS)))
        self.assertIsInstance(leaf.told()[1], tuple)
        self.assertEqual(leaf.first(), 1)
        self.assertEqual(leaf.many(), 3)
        self.assertEqual(leaf.under(), [])
        self.assertEqual(leaf.spread(Pages()), ROWS)

    def test_a_twig(self):
        for level in range(1, 7):
            twig = Twig(level, HEADS)
            self.assertIsInstance(twig, Page)
            self.assertEqual(twig.level, level)
            self.assertEqual(twig.heads, tuple(HEADS))
            self.assertIsInstance(twig.heads, tuple)
            self.assertEqual(twig.told(), (level, tuple(HEADS)))
            self.assertIsInstance(twig.told()[1], tuple)
            self.assertEqual(twig.first(), 1)
            self.assertEqual(twig.many(), 3)
            self.assertEqual(twig.under(), [4, 2, 9])

    def test_leaves_and_twigs_are_pages_and_not_one_another(self):
        self.assertEqual((Leaf.__bases__, Twig.__bases__), ((Page,), (Page,)))

    def test_of_a_tuple_as_of_a_list(self):
        self.assertEqual(Leaf(tuple(ROWS)).told(), Leaf(ROWS).told())
        self.assertEqual(Leaf(tuple(ROWS)).rows, tuple(ROWS))
        self.assertEqual(Twig(2, tuple(HEADS)).told(), Twig(2, HEADS).told())
        self.assertEqual(Twig(2, tuple(HEADS)).heads, tuple(HEADS))

    def test_of_one_entry(self):
        for key in MIXED:
            self.assertEqual((Leaf([(key, ())]).first(), Leaf([(key, ())]).many()), (key, 1))
            self.assertEqual((Twig(6, [(key, 3)]).first(), Twig(6, [(key, 3)]).under()), (key, [3]))

    def test_of_many_entries(self):
        rows = rows_by(MANY)
        self.assertEqual((Leaf(rows).many(), Leaf(rows).first(), Leaf(rows).told()), (300, MANY[0], (0, tuple(rows))))

    def test_nothing_is_asked_of_the_entries(self):
        # Neither that keys rise, nor that what the heads name stands or is of the level below.
        self.assertEqual(Leaf([(2, ()), (1, ())]).told(), (0, ((2, ()), (1, ()))))
        twig = Twig(3, [("b", 8), ("a", 8)])
        self.assertEqual((twig.told(), twig.under()), ((3, (("b", 8), ("a", 8))), [8, 8]))

    def test_what_is_handed_in_stays_and_changes_nothing_later(self):
        rows, heads = list(ROWS), list(HEADS)
        leaf, twig = Leaf(rows), Twig(1, heads)
        self.assertEqual((rows, heads), (ROWS, HEADS))
        rows.clear()
        heads.append(("z", 1))
        self.assertEqual((leaf.told(), leaf.rows, leaf.many()), ((0, tuple(ROWS)), tuple(ROWS), 3))
        self.assertEqual((twig.told(), twig.heads, twig.under()), ((1, tuple(HEADS)), tuple(HEADS), [4, 2, 9]))

    def test_lists_handed_back_are_the_askers_own(self):
        leaf, twig = Leaf(ROWS), Twig(1, HEADS)
        for told in (leaf.under, twig.under, lambda: leaf.spread(Pages())):
            once = told()
            self.assertIsInstance(once, list)
            copy = list(once)
            once.append("more")
            self.assertEqual(told(), copy)

    def test_two_pages_have_nothing_to_do_with_one_another(self):
        one, other = Leaf(ROWS), Leaf(ROWS[:1])
        self.assertEqual((one.many(), other.many()), (3, 1))
        one, other = Twig(1, HEADS), Twig(4, HEADS[1:])
        self.assertEqual((one.level, one.first(), other.level, other.first()), (1, 1, 4, 7))


class Spread(QuickCase):
    def setUp(self):
        self.pages = Pages()
        self.leaves = [self.pages.kept(Leaf([(at, ()), (at + 1, ())])) for at in range(0, 12, 2)]
        self.twigs = [
            self.pages.kept(Twig(1, [(at * 2, self.leaves[at]), (at * 2 + 2, self.leaves[at + 1])])) for at in (0, 2, 4)
        ]
        self.root = Twig(2, [(at * 4, number) for at, number in enumerate(self.twigs)])

    def test_rows_from_the_left(self):
        self.assertEqual(self.root.spread(self.pages), [(at, ()) for at in range(12)])
        self.assertEqual(self.pages.page(self.twigs[1]).spread(self.pages), [(at, ()) for at in range(4, 8)])
        self.assertEqual(self.pages.page(self.leaves[5]).spread(self.pages), [(10, ()), (11, ())])

    def test_the_page_itself_needs_no_store(self):
        self.assertNotIn((2, self.root.heads), [self.pages.page(at).told() for at in self.pages.numbers()])
        self.assertEqual(len(self.root.spread(self.pages)), 12)

    def test_the_first_page_that_lacks_is_told(self):
        # In the order of the tree: each twig ahead of its leaves, and what is to its right behind these.
        order = []
        for at in range(3):
            order += [self.twigs[at], self.leaves[2 * at], self.leaves[2 * at + 1]]
        for number in reversed(order):
            self.pages.drop(number)
            with self.assertRaises(NoPage) as refused:
                self.root.spread(self.pages)
            self.assertEqual(refused.exception.number, number)

    def test_a_leaf_to_the_left_goes_ahead_of_a_twig_to_the_right(self):
        self.pages.drop(self.twigs[2])
        self.pages.drop(self.leaves[1])
        with self.assertRaises(NoPage) as refused:
            self.root.spread(self.pages)
        self.assertEqual(refused.exception.number, self.leaves[1])

    def test_nothing_is_changed(self):
        copy = everything(self.pages)
        self.root.spread(self.pages).clear()
        self.assertEqual(everything(self.pages), copy)
        self.assertEqual(len(self.root.spread(self.pages)), 12)


class Stores(QuickCase):
    def lacks(self, pages, *numbers):
        for number in numbers:
            for step in (pages.page, pages.card, pages.drop):
                copy = everything(pages)
                with self.subTest(step=step.__name__, number=number):
                    with self.assertRaises(NoPage) as refused:
                        step(number)
                    self.assertEqual(refused.exception.number, number)
                    self.assertEqual(everything(pages), copy)

    def test_a_new_store(self):
        pages = Pages()
        self.assertEqual((pages.numbers(), pages.dealt()), ([], 0))
        self.lacks(pages, 0, 1, -1, 10**29)

    def test_numbers_are_dealt_one_by_one(self):
        pages = Pages()
        for at in range(10):
            self.assertEqual(pages.dealt(), at)
            self.assertEqual(pages.kept(Leaf([(at, ())]) if at % 2 else Twig(1, [(at, at)])), at)
            self.assertEqual(pages.dealt(), at + 1)
            self.assertEqual(pages.numbers(), list(range(at + 1)))
        self.lacks(pages, 10, -1)

    def test_a_page_is_told_as_it_was_kept(self):
        kept = [Leaf(rows_by([key])) for key in MIXED] + [Leaf([(0, cells)]) for cells in CELLS[1:]] + [Leaf(rows_by(MANY))]
        kept += [Twig(level, [(key, 10**29 - 1), ("~" * 40, 5)]) for level in range(1, 7) for key in (LEAST, GREATEST, " ")]
        pages = Pages()
        numbers = [pages.kept(page) for page in kept]
        self.assertEqual(len(set(numbers)), len([page for page in set(one.told() for one in kept)]))
        for number, page in zip(numbers, kept):
            found = pages.page(number)
            self.assertIsInstance(found, Leaf if page.level == 0 else Twig)
            self.assertEqual(found.told(), page.told())
            self.assertEqual(found.level, page.level)
            self.assertEqual(found.rows if page.level == 0 else found.heads, page.told()[1])
            self.assertEqual((found.first(), found.many(), found.under()), (page.first(), page.many(), page.under()))

    def test_a_page_that_is_told_alike_has_the_same_number(self):
        pages = store_of(Leaf(ROWS), Twig(1, HEADS), Twig(2, HEADS))
        copy = everything(pages)
        for number, page in enumerate([Leaf(tuple(ROWS)), Twig(1, tuple(HEADS)), Twig(2, list(HEADS))]):
            for _ in range(3):
                self.assertEqual(pages.kept(page), number)
                self.assertEqual(pages.kept(pages.page(number)), number)
        self.assertEqual(everything(pages), copy)

    def test_unlike_pages_have_unlike_numbers(self):
        told = [
            Leaf([(1, ())]), Leaf([("1", ())]), Leaf([(-1, ())]), Leaf([(-2, ())]), Leaf([(1, (("a", 1),))]),
            Leaf([(1, (("a", "1"),))]), Leaf([(1, (("b", 1),))]), Leaf([(1, (("a", (1, (2, 3))),))]),
            Leaf([(1, (("a", (1, (2, 4))),))]), Leaf([(1, (("a", (2, (2, 3))),))]), Leaf([(1, ()), (2, ())]),
            Leaf([(1, (("a", ""),))]), Leaf([(1, (("a", 1), ("b", 1)))]),
            Twig(1, [(1, 1)]), Twig(1, [(1, 2)]), Twig(2, [(1, 1)]), Twig(1, [("1", 1)]), Twig(1, [(1, 1), (2, 1)]),
        ]
        pages = Pages()
        self.assertEqual([pages.kept(page) for page in told], list(range(len(told))))

    def test_what_is_under_a_twig_is_not_asked(self):
        pages = Pages()
        # Pages that are not there, that are of a wrong level, and the twig itself.
        self.assertEqual(pages.kept(Twig(3, [(1, 77), ("a", 0)])), 0)
        self.assertEqual(pages.kept(Twig(1, [(9, 0)])), 1)
        self.assertEqual(pages.page(0).told(), (3, ((1, 77), ("a", 0))))
        self.assertEqual(pages.card(0), (3, 1))
        self.assertEqual(pages.page(1).under(), [0])
        pages.drop(0)
        self.assertEqual(pages.page(1).told(), (1, ((9, 0),)))
        self.assertEqual(pages.kept(Twig(1, [(9, 0)])), 1)

    def test_cards(self):
        pages = Pages()
        for key in MIXED + [LEAST_TEXT, GREATEST_TEXT]:
            self.assertEqual(pages.card(pages.kept(Leaf([(key, (("a", 1),))]))), (0, key))
            for level in range(1, 7):
                self.assertEqual(pages.card(pages.kept(Twig(level, [(key, 5)]))), (level, key))
        self.assertEqual(pages.card(pages.kept(Leaf(rows_by(MANY)))), (0, MANY[0]))
        self.assertIsInstance(pages.card(0), tuple)

    def test_dropping(self):
        pages = store_of(Leaf(ROWS), Twig(1, HEADS), Leaf(ROWS[:1]))
        self.assertIsNone(pages.drop(1))
        self.assertEqual((pages.numbers(), pages.dealt()), ([0, 2], 3))
        self.lacks(pages, 1)
        self.assertEqual(pages.page(0).told(), (0, tuple(ROWS)))
        # The same page kept again is a new one, and has its number from then on.
        self.assertEqual(pages.kept(Twig(1, HEADS)), 3)
        self.assertEqual(pages.kept(Twig(1, HEADS)), 3)
        self.assertEqual((pages.numbers(), pages.dealt()), ([0, 2, 3], 4))
        self.lacks(pages, 1)
        self.assertEqual(pages.kept(Leaf(ROWS)), 0)

    def test_dropping_the_last_and_all(self):
        pages = store_of(Leaf(ROWS), Twig(1, HEADS))
        pages.drop(1)
        self.assertEqual((pages.numbers(), pages.dealt()), ([0], 2))
        pages.drop(0)
        self.assertEqual((pages.numbers(), pages.dealt()), ([], 2))
        self.lacks(pages, 0, 1)
        self.assertEqual(pages.kept(Leaf(ROWS)), 2)

    def test_skipping(self):
        pages = store_of(Leaf(ROWS))
        self.assertIsNone(pages.skip(7))
        self.assertEqual((pages.numbers(), pages.dealt()), ([0], 7))
        for less in (0, 1, 6, 7):
            self.assertIsNone(pages.skip(less))
            self.assertEqual(pages.dealt(), 7)
        self.assertEqual(pages.kept(Leaf(ROWS)), 0)
        self.assertEqual(pages.kept(Twig(1, HEADS)), 7)
        self.assertEqual((pages.numbers(), pages.dealt()), ([0, 7], 8))
        self.lacks(pages, 1, 6, 8)
        self.assertEqual(pages.page(0).told(), (0, tuple(ROWS)))

    def test_skipping_far(self):
        pages = Pages()
        pages.skip(0)
        self.assertEqual(pages.dealt(), 0)
        pages.skip(10**29 - 1)
        self.assertEqual(pages.kept(Leaf(ROWS)), 10**29 - 1)
        self.assertEqual((pages.numbers(), pages.dealt()), ([10**29 - 1], 10**29))
        self.assertEqual(pages.page(10**29 - 1).told(), (0, tuple(ROWS)))

    def test_numbers_rise(self):
        pages = Pages()
        numbers = []
        for at in range(50):
            pages.skip(at * at)
            numbers.append(pages.kept(Leaf([(-at, ())])))
        for number in numbers[::3]:
            pages.drop(number)
        left = [number for number in numbers if number not in numbers[::3]]
        self.assertEqual(pages.numbers(), left)
        self.assertEqual(sorted(left), left)

    def test_as_many_pages_as_a_store_keeps(self):
        pages = Pages()
        for at in range(20000):
            self.assertEqual(pages.kept(Leaf([(at, ())])), at)
        self.assertEqual((pages.dealt(), len(pages.numbers())), (20000, 20000))
        for at in (0, 9999, 19999):
            self.assertEqual(pages.kept(Leaf([(at, ())])), at)
            self.assertEqual(pages.card(at), (0, at))

    def test_lists_handed_back_are_the_askers_own(self):
        pages = store_of(Leaf(ROWS), Twig(1, HEADS))
        numbers = pages.numbers()
        pages.kept(Leaf(ROWS[:1]))
        self.assertEqual(numbers, [0, 1])
        numbers.clear()
        pages.page(1).under().clear()
        pages.page(0).spread(pages).clear()
        self.assertEqual(pages.numbers(), [0, 1, 2])
        self.assertEqual((pages.page(1).under(), pages.page(0).spread(pages)), ([4, 2, 9], ROWS))

    def test_a_page_handed_back_is_the_askers_own(self):
        pages = store_of(Leaf(ROWS))
        leaf = pages.page(0)
        pages.drop(0)
        self.assertEqual(leaf.told(), (0, tuple(ROWS)))

    def test_lists_handed_in_change_nothing_later(self):
        rows, heads = list(ROWS), list(HEADS)
        pages = store_of(Leaf(rows), Twig(1, heads))
        rows.append(("z", ()))
        heads.clear()
        self.assertEqual(pages.page(0).told(), (0, tuple(ROWS)))
        self.assertEqual(pages.page(1).told(), (1, tuple(HEADS)))

    def test_two_stores_have_nothing_to_do_with_one_another(self):
        one, other = Pages(), Pages()
        leaf = Leaf(ROWS)
        self.assertEqual((one.kept(Twig(1, HEADS)), one.kept(leaf), other.kept(leaf)), (0, 1, 0))
        self.assertEqual((one.dealt(), other.dealt()), (2, 1))
        one.drop(1)
        one.skip(50)
        self.assertEqual((other.numbers(), other.dealt(), other.kept(leaf)), ([0], 1, 0))


if __name__ == "__main__":
    unittest.main()
