"""Points [41] to [43], and [2] to [4] for them: changes of one row, their cells, their ways back, made on a tree."""

import itertools
import unittest

from helper import (
    CELLS,
    CLASHES,
    GREATEST,
    GREATEST_TEXT,
    LEAST,
    LEAST_TEXT,
    MANY,
    MIXED,
    PLAIN,
    QuickCase,
    TABLES,
    order,
    plain_cells,
    plain_tree,
    rows_by,
    unfolded,
)

from twigtable.changes import Change, PutIn, TakenOut, Turned
from twigtable.errors import TableError, Unfit
from twigtable.pages import Pages
from twigtable.trees import built, rows_of

SOME = (("a", 1), ("b", "x"))
OTHER = (("b", "y"), ("c", (None, (1, 2))))
KINDS = {"in": PutIn, "out": TakenOut, "turned": Turned}


def plain_back(told):
    """The way back of [41], as it is told."""
    kind, key, *cells = told
    return ({"in": "out", "out": "in", "turned": "turned"}[kind], key, *reversed(cells))


def each_change(keys):
    """A change of each kind for each key and all sorts of cells."""
    for key in keys:
        for cells in CELLS:
            yield PutIn(key, cells)
            yield TakenOut(key, cells)
        for old, new in itertools.product(CELLS, CELLS):
            yield Turned(key, old, new)


class Kinds(QuickCase):
    def test_a_row_put_in(self):
        for key, cells in itertools.product(MIXED, CELLS):
            change = PutIn(key, cells)
            self.assertEqual((change.key, change.old, change.new), (key, None, cells))
            self.assertEqual(change.told(), ("in", key, cells))

    def test_a_row_taken_out(self):
        for key, cells in itertools.product(MIXED, CELLS):
            change = TakenOut(key, cells)
            self.assertEqual((change.key, change.old, change.new), (key, cells, None))
            self.assertEqual(change.told(), ("out", key, cells))

    def test_a_row_turned(self):
        for key, old, new in itertools.product(MIXED[::5], CELLS, CELLS):
            change = Turned(key, old, new)
            self.assertEqual((change.key, change.old, change.new), (key, old, new))
            self.assertEqual(change.told(), ("turned", key, old, new))

    def test_by_the_names_of_what_is_handed_in(self):
        self.assertEqual(PutIn(key=5, new=SOME).told(), ("in", 5, SOME))
        self.assertEqual(TakenOut(key=5, old=SOME).told(), ("out", 5, SOME))
        self.assertEqual(Turned(key=5, old=SOME, new=OTHER).told(), ("turned", 5, SOME, OTHER))

    def test_the_three_stand_straight_under_change(self):
        for kind in KINDS.values():
            self.assertEqual(kind.__bases__, (Change,))

    def test_told_is_a_tuple(self):
        for change in each_change([5]):
            self.assertIs(type(change.told()), tuple)

    def test_a_row_turned_into_the_same_cells(self):
        change = Turned(5, SOME, SOME)
        self.assertEqual(change.told(), ("turned", 5, SOME, SOME))
        self.assertEqual(change.cells_told(), [])
        self.assertEqual(change.back().told(), change.told())

    def test_rows_all_of_whose_cells_are_empty(self):
        self.assertEqual(PutIn(5, ()).told(), ("in", 5, ()))
        self.assertEqual(TakenOut(5, ()).told(), ("out", 5, ()))
        self.assertEqual(Turned(5, (), SOME).told(), ("turned", 5, (), SOME))
        self.assertEqual(Turned(5, SOME, ()).told(), ("turned", 5, SOME, ()))
        self.assertEqual(Turned(5, (), ()).told(), ("turned", 5, (), ()))


class WaysBack(QuickCase):
    def test_of_each_kind(self):
        for change in each_change([LEAST, 0, GREATEST, LEAST_TEXT, GREATEST_TEXT]):
            told = change.told()
            back = change.back()
            self.assertEqual(back.told(), plain_back(told))
            self.assertIs(type(back), KINDS[back.told()[0]])
            self.assertEqual((back.key, back.old, back.new), (change.key, change.new, change.old))
            self.assertEqual(change.told(), told)
            self.assertIs(type(back.back()), type(change))
            self.assertEqual(back.back().told(), told)

    def test_the_way_back_is_the_askers_own(self):
        change = Turned(5, SOME, OTHER)
        back = change.back()
        back.key, back.old, back.new = 7, None, ()
        self.assertEqual(change.told(), ("turned", 5, SOME, OTHER))
        self.assertEqual(change.back().told(), ("turned", 5, OTHER, SOME))


class CellsOfAChange(QuickCase):
    def test_by_hand(self):
        clash = (None, (1, 2))
        self.assertEqual(Turned(5, SOME, OTHER).cells_told(), [("a", 1, None), ("b", "x", "y"), ("c", None, clash)])
        self.assertEqual(PutIn(5, OTHER).cells_told(), [("b", None, "y"), ("c", None, clash)])
        self.assertEqual(TakenOut(5, OTHER).cells_told(), [("b", "y", None), ("c", clash, None)])
        for change in (PutIn(5, ()), TakenOut(5, ()), Turned(5, (), ())):
            self.assertEqual(change.cells_told(), [])

    def test_each_pair_of_values(self):
        values = PLAIN + CLASHES + [(None, (1, 3)), (0, (1, 2))]
        for old, new in itertools.product(values, values):
            change = Turned("k", plain_cells({"a": 7, "m": old}), plain_cells({"m": new, "z": 8}))
            middle = [] if old == new else [("m", old, new)]
            self.assertEqual(change.cells_told(), [("a", 7, None)] + middle + [("z", None, 8)])

    def test_of_all_sorts_of_cells(self):
        for change in each_change([5]):
            old, new = dict(change.old or ()), dict(change.new or ())
            wanted = [
                (column, old.get(column), new.get(column)) for column in sorted({**old, **new})
                if old.get(column) != new.get(column)
            ]
            told = change.cells_told()
            self.assertEqual(told, wanted)
            self.assertIs(type(told), list)
            self.assertTrue(all(type(cell) is tuple for cell in told))

    def test_columns_rise_whichever_side_has_them(self):
        old = (("a", 1), ("c", 1), ("e", 1), ("z", 1))
        new = (("aa", 1), ("b", 1), ("d", 1), ("f", 1), ("zz", 1))
        told = Turned(5, old, new).cells_told()
        self.assertEqual([cell[0] for cell in told], ["a", "aa", "b", "c", "d", "e", "f", "z", "zz"])

    def test_the_ways_back_tell_them_changed_about(self):
        for change in each_change(["k"]):
            about = [(column, new, old) for column, old, new in change.cells_told()]
            self.assertEqual(change.back().cells_told(), about)

    def test_what_is_told_is_the_askers_own(self):
        change = Turned(5, SOME, OTHER)
        change.cells_told().clear()
        self.assertEqual(len(change.cells_told()), 3)


class Onto(QuickCase):
    def moved(self, rows, change):
        """The rows behind the change, or None where it does not fit, worked out from [43]."""
        cells = dict(rows).get(change.key)
        if cells != change.old:
            return None
        others = [row for row in rows if row[0] != change.key]
        added = [] if change.new is None else [(change.key, change.new)]
        return sorted(others + added, key=lambda row: order(row[0]))

    def held(self, pages, root, rows, change):
        wanted = self.moved(rows, change)
        told = change.told()
        if wanted is None:
            with self.assertRaises(TableError) as caught:
                change.onto(pages, root)
            self.assertIs(type(caught.exception), Unfit)
            self.assertEqual(caught.exception.key, change.key)
        else:
            new = change.onto(pages, root)
            self.assertEqual(new, built(pages, wanted))
            self.assertEqual(unfolded(pages, new), plain_tree(wanted))
            self.assertEqual(change.back().onto(pages, new), root)
        self.assertEqual(rows_of(pages, root), rows)
        self.assertEqual(change.told(), told)
        return wanted is not None

    def test_on_each_tree(self):
        fits = {True: 0, False: 0}
        for name, rows in TABLES.items():
            pages = Pages()
            root = built(pages, rows)
            some = rows if len(rows) < 20 else rows[::25]
            keys = [row[0] for row in some] + [LEAST + 1, 3, GREATEST - 1, "  ", "none such", "~" * 39]
            for key in keys:
                cells = dict(rows).get(key)
                changes = [PutIn(key, SOME), PutIn(key, ()), TakenOut(key, SOME), TakenOut(key, ())]
                changes += [Turned(key, SOME, OTHER), Turned(key, (), OTHER), Turned(key, SOME, ())]
                if cells is not None:
                    changes += [TakenOut(key, cells), Turned(key, cells, OTHER), Turned(key, cells, ())]
                    changes += [Turned(key, cells, cells), PutIn(key, cells), TakenOut(key, cells + (("zz", 1),))]
                for change in changes:
                    with self.subTest(name, told=change.told()):
                        fits[self.held(pages, root, rows, change)] += 1
        self.assertGreater(min(fits.values()), 100)

    def test_into_no_tree(self):
        for key, cells in itertools.product(MIXED, CELLS):
            pages = Pages()
            self.assertTrue(self.held(pages, None, [], PutIn(key, cells)))
            self.assertFalse(self.held(pages, None, [], TakenOut(key, cells)))
            self.assertFalse(self.held(pages, None, [], Turned(key, cells, SOME)))
            self.assertFalse(self.held(pages, None, [], Turned(key, cells, cells)))

    def test_the_last_row_taken_out(self):
        for key, cells in itertools.product(MIXED, CELLS):
            pages = Pages()
            self.assertIsNone(TakenOut(key, cells).onto(pages, built(pages, [(key, cells)])))

    def test_a_row_without_cells_is_a_row(self):
        pages = Pages()
        root = built(pages, [(5, ())])
        for change, fits in [
            (PutIn(5, ()), False),
            (PutIn(5, SOME), False),
            (TakenOut(5, ()), True),
            (TakenOut(5, SOME), False),
            (Turned(5, (), SOME), True),
            (Turned(5, (), ()), True),
            (Turned(5, SOME, ()), False),
        ]:
            self.assertEqual(self.held(pages, root, [(5, ())], change), fits)

    def test_cells_that_are_not_just_the_old_ones(self):
        clash = (5, (None, "a"))
        cells = (("a", clash), ("b", 1))
        near = [
            (),
            (("a", clash),),
            (("b", 1),),
            (("a", clash), ("b", "1")),
            (("a", clash), ("b", 2)),
            (("a", (5, (None, "b"))), ("b", 1)),
            (("a", (4, (None, "a"))), ("b", 1)),
            (("a", clash), ("c", 1)),
            (("a", clash), ("b", 1), ("c", 0)),
        ]
        pages = Pages()
        rows = [(1, cells), ("k", cells), ("l", near[0])]
        root = built(pages, rows)
        for key, old in itertools.product([1, "k"], near):
            self.assertFalse(self.held(pages, root, rows, TakenOut(key, old)))
            self.assertFalse(self.held(pages, root, rows, Turned(key, old, cells)))
        for key in (1, "k"):
            self.assertTrue(self.held(pages, root, rows, TakenOut(key, cells)))
            self.assertTrue(self.held(pages, root, rows, Turned(key, cells, near[5])))

    def test_keys_that_only_look_alike(self):
        pages = Pages()
        rows = [(5, SOME), ("6", SOME)]
        root = built(pages, rows)
        self.assertFalse(self.held(pages, root, rows, TakenOut("5", SOME)))
        self.assertFalse(self.held(pages, root, rows, TakenOut(6, SOME)))
        self.assertTrue(self.held(pages, root, rows, PutIn("5", SOME)))

    def test_the_key_of_the_refusal(self):
        pages = Pages()
        root = built(pages, rows_by(MANY))
        for key in MIXED:
            with self.assertRaises(Unfit) as caught:
                PutIn(key, SOME).onto(pages, root)
            self.assertEqual(caught.exception.key, key)


if __name__ == "__main__":
    unittest.main()
