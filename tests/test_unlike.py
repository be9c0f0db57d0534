"""Points [43] to [46], and [2] to [4] for them: trees held against one another, and changes moved onto a tree."""

import itertools
import unittest

from helper import (
    CELLS,
    CLASHES,
    Dice,
    GREATEST,
    GREATEST_TEXT,
    LEAST,
    LEAST_TEXT,
    MANY,
    MIXED,
    NUMBERS,
    QuickCase,
    SHEETS,
    TABLES,
    TEXTS,
    WORDS,
    everything,
    many_keys,
    order,
    rows_by,
    shuffled,
)

from twigtable.changes import PutIn, TakenOut, Turned
from twigtable.edits import put, take
from twigtable.errors import TableError, Unfit
from twigtable.pages import Pages
from twigtable.trees import built, numbers_of, rows_of
from twigtable.unlike import columns_unlike, moved, unlike

SOME = (("a", 1), ("b", "x"))
OTHER = (("b", "y"), ("c", (None, (1, 2))))


class WatchedPages(Pages):
    """A store that remembers which of its pages were asked for."""

    def __init__(self):
        super().__init__()
        self.asked = set()

    def page(self, number):
        self.asked.add(number)
        return super().page(number)


def plain_changes(one_rows, other_rows):
    """The changes of [44] as they are told, row by row."""
    old, new = dict(one_rows), dict(other_rows)
    told = []
    for key in sorted({**old, **new}, key=order):
        if key not in old:
            told.append(("in", key, new[key]))
        elif key not in new:
            told.append(("out", key, old[key]))
        elif old[key] != new[key]:
            told.append(("turned", key, old[key], new[key]))
    return told


def changed(rows, keys, dice):
    """Other rows: of the keys some are taken out, some put in, some given other cells."""
    by_key = dict(rows)
    for key in keys:
        if key in by_key and dice.below(2):
            by_key.pop(key)
        else:
            by_key[key] = dice.one_of(CELLS)
    return sorted(by_key.items(), key=lambda row: order(row[0]))


class Unlike(QuickCase):
    def held(self, pages, one, other):
        """What is told of the two trees is what their rows and pages say, and none but these pages is asked for."""
        one_rows, other_rows = rows_of(pages, one), rows_of(pages, other)
        wanted = plain_changes(one_rows, other_rows)
        looked_at = sorted(set(numbers_of(pages, one)) ^ set(numbers_of(pages, other)))
        before = everything(pages)
        pages.asked.clear()
        told = unlike(pages, one, other)
        self.assertEqual(sorted(pages.asked), looked_at)
        self.assertIs(type(told), tuple)
        changes, seen = told
        self.assertEqual((type(changes), type(seen)), (list, list))
        self.assertEqual([change.told() for change in changes], wanted)
        self.assertEqual(seen, looked_at)
        kinds = {"in": PutIn, "out": TakenOut, "turned": Turned}
        self.assertTrue(all(type(change) is kinds[change.told()[0]] for change in changes))
        self.assertEqual(everything(pages), before)
        return changes, seen

    def both_ways(self, pages, one, other):
        changes, seen = self.held(pages, one, other)
        backs, same = self.held(pages, other, one)
        self.assertEqual(same, seen)
        self.assertEqual([change.back().told() for change in changes], [back.told() for back in backs])
        return changes, seen

    def without_common_pages(self, pages, one, other):
        """The same is told when all pages that both trees have, but the roots, are out of the store."""
        changes, seen = unlike(pages, one, other)
        for number in set(numbers_of(pages, one)) & set(numbers_of(pages, other)) - {one, other}:
            pages.drop(number)
        again, seen_again = unlike(pages, one, other)
        self.assertEqual([change.told() for change in again], [change.told() for change in changes])
        self.assertEqual(seen_again, seen)

    def test_each_two_of_the_tables(self):
        for one_rows, other_rows in itertools.product(TABLES.values(), TABLES.values()):
            pages = WatchedPages()
            one, other = built(pages, one_rows), built(pages, other_rows)
            self.held(pages, one, other)
            self.without_common_pages(pages, one, other)

    def test_no_tree_and_no_tree(self):
        self.assertEqual(unlike(Pages(), None, None), ([], []))

    def test_one_is_none(self):
        for rows in TABLES.values():
            pages = WatchedPages()
            root = built(pages, rows)
            changes, seen = self.both_ways(pages, None, root)
            self.assertEqual([change.told() for change in changes], [("in", key, cells) for key, cells in rows])
            self.assertEqual(seen, sorted(numbers_of(pages, root)))

    def test_both_are_one(self):
        for rows in TABLES.values():
            pages = WatchedPages()
            root = built(pages, rows)
            self.assertEqual(self.held(pages, root, root), ([], []))
            self.without_common_pages(pages, root, root)

    def test_one_row_put(self):
        rows = rows_by(MANY)
        keys = [LEAST + 1, 3, GREATEST - 1, "  ", "~" * 39] + [NUMBERS[at][2] for at in range(7)] + MANY[::23]
        keys += [TEXTS[at][2] for at in range(7)]
        for key in keys:
            pages = WatchedPages()
            one = built(pages, rows)
            other = put(pages, one, key, OTHER)
            changes, seen = self.both_ways(pages, one, other)
            self.assertEqual(len(changes), 1)
            # At most two of the new tree, and so at most three of both, are not common on each level.
            self.assertLessEqual(len(seen), 21)
            self.without_common_pages(pages, one, other)

    def test_one_row_taken(self):
        rows = rows_by(MANY)
        for key in MANY[::23] + [MANY[0], MANY[-1]]:
            pages = WatchedPages()
            one = built(pages, rows)
            other = take(pages, one, key)
            changes, seen = self.both_ways(pages, one, other)
            self.assertEqual([change.told() for change in changes], [("out", key, dict(rows)[key])])
            self.without_common_pages(pages, one, other)

    def test_by_hand(self):
        pages = WatchedPages()
        # "ab" has level 3, so the rows ahead of it are in a leaf of their own, below twigs of level 1 and 2.
        one = built(pages, [(0, ()), (1, SOME), ("a", ()), ("ab", ())])
        other = built(pages, [(0, ()), (1, OTHER), ("ab", ()), ("b", ())])
        changes, seen = self.both_ways(pages, one, other)
        self.assertEqual(
            [change.told() for change in changes],
            [("turned", 1, SOME, OTHER), ("out", "a", ()), ("in", "b", ())],
        )
        self.assertEqual(len(seen), 14)
        same_right = built(pages, [(0, ()), ("ab", ())])
        changes, seen = self.both_ways(pages, one, same_right)
        self.assertEqual([change.told() for change in changes], [("out", 1, SOME), ("out", "a", ())])
        # The right side is common: a leaf and its twigs of level 1 and 2.
        self.assertEqual(len(seen), 8)

    def test_a_root_that_is_a_page_of_the_other_tree(self):
        pages = WatchedPages()
        root = built(pages, rows_by(MANY))
        within = [number for number in numbers_of(pages, root) if pages.page(number).level == 0]
        within += [number for number in numbers_of(pages, root) if len(pages.page(number).under()) > 1]
        self.assertEqual(set(pages.card(number)[0] for number in within), set(range(7)))
        for number in within[::5] + within[-10:]:
            rows = rows_of(pages, number)
            self.assertEqual(built(pages, rows), number)
            changes, seen = self.both_ways(pages, number, root)
            self.assertEqual(len(changes), 300 - len(rows))
            self.assertTrue(number == root or number not in seen)
        for number in within[3:300:40]:
            pages = WatchedPages()
            root = built(pages, rows_by(MANY))
            self.without_common_pages(pages, number, root)

    def test_roots_of_each_two_levels(self):
        pages = WatchedPages()
        roots = [built(pages, rows_by([LEAST + 5, 4] + [TEXTS[level][0]])) for level in range(7)]
        self.assertEqual([pages.card(root)[0] for root in roots], list(range(7)))
        for one, other in itertools.product(roots, roots):
            changes, seen = self.held(pages, one, other)
            self.assertEqual(len(changes), 0 if one == other else 2)

    def test_rows_all_of_whose_cells_are_empty(self):
        pages = WatchedPages()
        one, other = built(pages, [(5, ())]), built(pages, [(5, SOME), ("5", ())])
        changes, seen = self.both_ways(pages, one, other)
        self.assertEqual([change.told() for change in changes], [("turned", 5, (), SOME), ("in", "5", ())])
        changes, seen = self.both_ways(pages, None, one)
        self.assertEqual([change.told() for change in changes], [("in", 5, ())])

    def test_clashes_are_cells_like_others(self):
        pages = WatchedPages()
        roots = [built(pages, [(5, (("a", value),))]) for value in CLASHES + [1, "a"]]
        for one, other in itertools.combinations(roots, 2):
            changes, seen = self.both_ways(pages, one, other)
            self.assertEqual(([change.told()[0] for change in changes], seen), (["turned"], sorted([one, other])))

    def test_numbers_that_are_not_in_the_order_of_the_keys(self):
        # The pages of the other tree are kept first, and pages beside them are in the store, too.
        pages = WatchedPages()
        pages.skip(10**29 - 5000)
        for at in range(0, 300, 50):
            built(pages, rows_by(MANY[at : at + 90]))
        other = built(pages, rows_by(MANY[20:]))
        one = built(pages, rows_by(MANY[:280]))
        self.both_ways(pages, one, other)
        self.without_common_pages(pages, one, other)

    def test_many(self):
        for seed in range(40):
            dice = Dice(seed)
            pages = WatchedPages()
            keys = many_keys(1 + dice.below(300))
            rows = [(key, dice.one_of(CELLS)) for key in keys]
            some = [dice.one_of(MANY) for time in range(dice.below(12))]
            one, other = built(pages, rows), built(pages, changed(rows, some, dice))
            self.both_ways(pages, one, other)
            self.without_common_pages(pages, one, other)

    def test_what_is_told_is_the_askers_own(self):
        pages = WatchedPages()
        one, other = built(pages, [(5, SOME)]), built(pages, [(6, SOME)])
        changes, seen = unlike(pages, one, other)
        changes[0].key = 9
        changes.clear()
        seen.clear()
        self.both_ways(pages, one, other)


class Moved(QuickCase):
    def refused(self, pages, root, changes, key):
        rows, told = rows_of(pages, root), [change.told() for change in changes]
        with self.assertRaises(TableError) as caught:
            moved(pages, root, changes)
        self.assertIs(type(caught.exception), Unfit)
        self.assertEqual(caught.exception.key, key)
        self.assertEqual(rows_of(pages, root), rows)
        self.assertEqual([change.told() for change in changes], told)

    def test_of_no_changes(self):
        for rows in TABLES.values():
            pages = Pages()
            root = built(pages, rows)
            before = everything(pages)
            self.assertEqual(moved(pages, root, []), root)
            self.assertEqual(everything(pages), before)

    def test_what_is_unlike_leads_from_the_one_to_the_other_in_any_order(self):
        pairs = list(itertools.product(list(TABLES.values())[:8], repeat=2))
        pairs += [(rows_by(MANY), []), ([], rows_by(MANY)), (rows_by(MANY[:200]), rows_by(MANY[100:]))]
        pairs += [(rows_by(MANY), [(key, SOME) for key in MANY])]
        for one_rows, other_rows in pairs:
            pages = Pages()
            one, other = built(pages, one_rows), built(pages, other_rows)
            changes = unlike(pages, one, other)[0]
            for some in (changes, changes[::-1], changes[1::2] + changes[::2]):
                self.assertEqual(moved(pages, one, some), other)
                self.assertEqual(moved(pages, other, [change.back() for change in some]), one)
            self.assertEqual(rows_of(pages, one), one_rows)
            self.assertEqual(rows_of(pages, other), other_rows)

    def test_six_hundred_changes(self):
        one_rows = [(number, SOME) for number in range(300)]
        other_rows = [(f"k {number:03}", OTHER) for number in range(300)]
        pages = Pages()
        one, other = built(pages, one_rows), built(pages, other_rows)
        changes = unlike(pages, one, other)[0]
        self.assertEqual(len(changes), 600)
        # The rows put in first are 600 rows meanwhile.
        for some in (changes, changes[::-1], shuffled(changes, 7)):
            self.assertEqual(moved(pages, one, some), other)
            self.assertEqual(moved(pages, other, [change.back() for change in some]), one)

    def test_each_onto_what_came_of_those_ahead(self):
        pages = Pages()
        changes = [PutIn(5, SOME), Turned(5, SOME, OTHER), Turned(5, OTHER, ()), TakenOut(5, ()), PutIn(5, OTHER)]
        roots = [moved(pages, None, changes[:count]) for count in range(6)]
        wanted = [[], [(5, SOME)], [(5, OTHER)], [(5, ())], [], [(5, OTHER)]]
        self.assertEqual(roots, [built(pages, rows) for rows in wanted])
        backs = [change.back() for change in changes[::-1]]
        self.assertEqual([moved(pages, roots[5], backs[:count]) for count in range(6)], roots[::-1])
        self.assertEqual(moved(pages, None, [PutIn(5, SOME), Turned(5, SOME, SOME)]), roots[1])

    def test_one_that_does_not_fit_at_each_place(self):
        rows = rows_by(MIXED)
        pages = Pages()
        root = built(pages, rows)
        good = [TakenOut(key, cells) for key, cells in rows[:3]] + [PutIn(12345, SOME), Turned(*rows[4], SOME)]
        bad = [PutIn(rows[6][0], SOME), PutIn(*rows[7]), TakenOut("none such", ()), TakenOut(rows[8][0], SOME)]
        bad += [Turned(rows[9][0], SOME, OTHER), Turned(54321, (), ()), Turned(GREATEST_TEXT, SOME, SOME)]
        moved(pages, root, good)
        for change, at in itertools.product(bad, range(6)):
            self.refused(pages, root, good[:at] + [change] + good[at:], change.key)

    def test_the_first_that_does_not_fit_goes(self):
        pages = Pages()
        root = built(pages, [(1, SOME), (2, SOME)])
        self.refused(pages, root, [PutIn(2, SOME), PutIn(1, SOME)], 2)
        self.refused(pages, root, [PutIn(3, SOME), TakenOut(LEAST_TEXT, ()), PutIn(1, SOME)], LEAST_TEXT)
        self.refused(pages, None, [TakenOut("k", ()), TakenOut("j", ())], "k")

    def test_one_that_no_longer_fits(self):
        pages = Pages()
        root = built(pages, [(1, SOME)])
        for changes in (
            [TakenOut(1, SOME), TakenOut(1, SOME)],
            [TakenOut(1, SOME), Turned(1, SOME, OTHER)],
            [Turned(1, SOME, OTHER), TakenOut(1, SOME)],
            [Turned(1, SOME, OTHER), Turned(1, SOME, OTHER)],
            [TakenOut(1, SOME), PutIn(1, OTHER), PutIn(1, OTHER)],
            [PutIn(2, SOME), TakenOut(1, SOME), PutIn(3, ()), TakenOut(1, SOME)],
        ):
            self.refused(pages, root, changes, 1)
            moved(pages, root, changes[:-1])

    def test_one_that_fits_only_behind_another(self):
        pages = Pages()
        one, other = PutIn(1, SOME), Turned(1, SOME, OTHER)
        self.assertEqual(rows_of(pages, moved(pages, None, [one, other])), [(1, OTHER)])
        self.refused(pages, None, [other, one], 1)

    def test_the_list_is_not_changed(self):
        pages = Pages()
        changes = [PutIn(1, SOME), PutIn("k", OTHER)]
        kept = list(changes)
        moved(pages, None, changes)
        self.assertEqual(changes, kept)


class ColumnsUnlike(QuickCase):
    def held(self, one, other, put_in, dropped):
        told = columns_unlike(one, other)
        self.assertEqual(told, (put_in, dropped))
        self.assertEqual((type(told), type(told[0]), type(told[1])), (tuple, list, list))
        self.assertEqual(columns_unlike(other, one), (dropped, put_in))

    def test_by_hand(self):
        self.held(((), None), ((), None), [], [])
        self.held(((), None), (("a",), None), ["a"], [])
        self.held((("a", "b"), None), (("b", "c"), None), ["c"], ["a"])
        self.held((("a", "c", "e"), None), (("b", "c", "d"), None), ["b", "d"], ["a", "e"])
        self.held((("a",), None), (("aa",), None), ["aa"], ["a"])
        self.held(((), None), (tuple(WORDS), None), WORDS, [])
        self.held((tuple(WORDS), None), (tuple(WORDS), None), [], [])
        self.held((tuple(WORDS[::2]), None), (tuple(WORDS[1::2]), None), WORDS[1::2], WORDS[::2])
        self.held((tuple(WORDS[:20]), None), (tuple(WORDS[10:]), None), WORDS[20:], WORDS[:10])

    def test_the_rows_are_nothing(self):
        self.held((("a",), 5), (("b",), None), ["b"], ["a"])
        self.held((("a",), 5), (("a",), 10**29), [], [])

    def test_each_two_of_the_tables(self):
        for (one, rows), (other, others) in itertools.product(SHEETS.values(), SHEETS.values()):
            put_in, dropped = sorted(set(other) - set(one)), sorted(set(one) - set(other))
            self.held((tuple(one), None), (tuple(other), None), put_in, dropped)

    def test_what_is_told_is_the_askers_own(self):
        one, other = (("a", "b"), None), (("b", "c"), None)
        told = columns_unlike(one, other)
        told[0].clear()
        told[1].append("x")
        self.held(one, other, ["c"], ["a"])


if __name__ == "__main__":
    unittest.main()
