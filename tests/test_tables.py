"""Points [35] to [39], and [2] to [4] for them: tables, their columns, rows and cells, put, taken and read."""

import itertools
import unittest
import unittest.mock

from helper import (
    CLASHES,
    Dice,
    GREATEST,
    GREATEST_TEXT,
    LEAST,
    LEAST_TEXT,
    MANY,
    MIXED,
    NEVER,
    NUMBERS,
    PLAIN,
    QuickCase,
    SHEETS,
    TEXTS,
    WORDS,
    order,
    plain_cells,
    plain_row,
    rows_of_columns,
    shuffled,
)

from twigtable.errors import BadKey, BadValue, BadWord, ColumnThere, NoColumn, NoRow, TableError
from twigtable.pages import Pages
from twigtable.tables import (
    cell_at,
    drop_column,
    no_table,
    put_cell,
    put_column,
    put_row,
    row_at,
    rows_in,
    take_row,
)
from twigtable.trees import built, rows_of

NO_KEYS = NEVER + [None, "", CLASHES[0], (1,)]
NO_WORDS = NEVER + [None, 5, "", "A", "aB", "a1", "a b", " a", "a_b", "a" * 13, ("a", "b"), CLASHES[0], "`", "{"]
NO_PLAIN = NEVER + CLASHES + [(1, 2), (None, (1,)), (None, (2, 1))]
# What is equal to everything is still no key, no word and no value.
ANY = unittest.mock.ANY


def table_of(pages, columns, rows):
    return (tuple(columns), built(pages, rows))


def column_by_column(columns):
    table = no_table()
    for column in columns:
        table = put_column(table, column)
    return table


class Tables(QuickCase):
    def setUp(self):
        self.pages = Pages()

    def sheets(self):
        """Each of the tables of the helper in a store of its own, with its columns and rows."""
        for columns, rows in SHEETS.values():
            self.pages = Pages()
            yield table_of(self.pages, columns, rows), list(columns), list(rows)

    def reads(self, table, columns, rows):
        """The table is just the one that has these columns and rows."""
        self.assertEqual(table, (tuple(columns), built(self.pages, rows)))
        self.assertIsInstance(table, tuple)
        self.assertIsInstance(table[0], tuple)
        self.assertEqual(rows_of(self.pages, table[1]), rows)
        self.assertEqual(rows_in(self.pages, table), [(key, plain_row(columns, cells)) for key, cells in rows])

    def refused(self, error, function, *given, **values):
        """The refusal, with its values, while the table handed in reads as before."""
        table = given[0] if isinstance(given[0], tuple) else given[1]
        before = rows_in(self.pages, table)
        with self.assertRaises(TableError) as caught:
            function(*given)
        self.assertIs(type(caught.exception), error)
        for name, value in values.items():
            self.assertIs(getattr(caught.exception, name), value)
        self.assertEqual(rows_in(self.pages, table), before)


class Columns(Tables):
    def test_no_table(self):
        self.assertEqual(no_table(), ((), None))
        self.assertIsInstance(no_table(), tuple)
        self.reads(no_table(), [], [])

    def test_put_in_any_order(self):
        for step in (1, 7, 11, 29):
            table = column_by_column(shuffled(WORDS, step))
            self.assertEqual(table, (tuple(WORDS), None))
        self.assertEqual(put_column(no_table(), "a"), (("a",), None))
        self.assertEqual(put_column((("b",), None), "a"), (("a", "b"), None))
        self.assertEqual(put_column((("ab",), None), "b"), (("ab", "b"), None))
        self.assertEqual(put_column((("ab",), None), "a"), (("a", "ab"), None))

    def test_put_leaves_the_root_and_its_cells_are_empty(self):
        for table, columns, rows in self.sheets():
            for column in ("q", "aaa", "zzzzzzzzzzzy"):
                if column not in columns and len(columns) < 30:
                    more = put_column(table, column)
                    self.assertEqual(more[1], table[1])
                    self.reads(more, sorted(columns + [column]), rows)
                    for key, cells in rows[:20]:
                        self.assertIsNone(cell_at(self.pages, more, key, column))
            self.reads(table, columns, rows)

    def test_put_what_is_no_word(self):
        for table in (no_table(), (("a", "b"), None), table_of(self.pages, ["a"], [(5, (("a", 1),))])):
            for column in NO_WORDS + [ANY]:
                with self.subTest(column=column):
                    self.refused(BadWord, put_column, table, column)

    def test_put_what_is_there(self):
        for table, columns, rows in self.sheets():
            for column in columns:
                self.refused(ColumnThere, put_column, table, column, column=column)

    def test_drop(self):
        for table, columns, rows in self.sheets():
            for column in columns:
                left = [one for one in columns if one != column]
                rows_left = [(key, tuple(cell for cell in cells if cell[0] != column)) for key, cells in rows]
                if len(rows) < 100 or column in (columns[0], columns[-1], columns[len(columns) // 2]):
                    self.reads(drop_column(self.pages, table, column), left, rows_left)
            self.reads(table, columns, rows)

    def test_drop_leaves_rows_without_a_cell(self):
        table = table_of(self.pages, ["a"], [(key, (("a", CLASHES[0]),)) for key in MIXED])
        self.reads(drop_column(self.pages, table, "a"), [], [(key, ()) for key in MIXED])

    def test_drop_of_an_empty_column_leaves_the_root(self):
        for table, columns, rows in self.sheets():
            if len(columns) < 30:
                self.assertEqual(drop_column(self.pages, put_column(table, "q"), "q"), table)

    def test_a_dropped_column_that_is_put_again_is_empty(self):
        table = table_of(self.pages, ["a", "b"], [(1, (("a", 2), ("b", 3))), ("x", (("a", 4),))])
        table = put_column(drop_column(self.pages, table, "a"), "a")
        self.reads(table, ["a", "b"], [(1, (("b", 3),)), ("x", ())])

    def test_drop_all(self):
        columns, rows = SHEETS["30 columns, 300 rows"]
        table = table_of(self.pages, columns, rows)
        for column in shuffled(WORDS, 7):
            table = drop_column(self.pages, table, column)
        self.reads(table, [], [(key, ()) for key in MANY])

    def test_drop_what_is_no_column(self):
        for table in (no_table(), (("a", "b"), None), table_of(self.pages, ["a"], [(5, (("a", 1),))])):
            for column in NO_WORDS + ["c", "aa", "z" * 12, ANY]:
                with self.subTest(column=column):
                    self.refused(NoColumn, drop_column, self.pages, table, column, column=column)


class RowsPut(Tables):
    def test_in_each_table(self):
        keys = MIXED[::4] + [NUMBERS[3][2], TEXTS[6][2], 5, "5"]
        for table, columns, rows in self.sheets():
            for at, key in enumerate(keys):
                given = {column: PLAIN[(at + place) % len(PLAIN)] for place, column in enumerate(columns)}
                others = [row for row in rows if row[0] != key]
                wanted = sorted(others + [(key, plain_cells(given))], key=lambda row: order(row[0]))
                self.reads(put_row(self.pages, table, key, given), columns, wanted)
            self.reads(table, columns, rows)

    def test_columns_not_named_and_none_are_empty(self):
        for given in ({}, {"a": None}, {"a": None, "b": None, "c": None}):
            for rows in ([], [(5, (("a", 1), ("b", CLASHES[0]), ("c", "x")))], [(4, ()), (5, ()), (6, ())]):
                table = table_of(self.pages, ["a", "b", "c"], rows)
                wanted = sorted([row for row in rows if row[0] != 5] + [(5, ())])
                self.reads(put_row(self.pages, table, 5, given), ["a", "b", "c"], wanted)

    def test_in_the_place_of_the_whole_row(self):
        table = table_of(self.pages, ["a", "b", "c"], [(5, (("a", 1), ("b", CLASHES[0]), ("c", CLASHES[1])))])
        self.reads(put_row(self.pages, table, 5, {"c": "x"}), ["a", "b", "c"], [(5, (("c", "x"),))])
        self.reads(put_row(self.pages, table, 5, {"b": 0}), ["a", "b", "c"], [(5, (("b", 0),))])

    def test_the_order_of_the_dict_is_nothing(self):
        cells = {column: at for at, column in enumerate(WORDS)}
        wanted = put_row(self.pages, (tuple(WORDS), None), 5, cells)
        for step in (7, 11, 29):
            given = {column: cells[column] for column in shuffled(WORDS, step)}
            self.assertEqual(put_row(self.pages, (tuple(WORDS), None), 5, given), wanted)
            self.assertEqual(list(given), shuffled(WORDS, step))

    def test_each_plain_value_and_each_key(self):
        for key, value in itertools.product(MIXED, PLAIN):
            cells = () if value is None else (("a", value),)
            self.reads(put_row(self.pages, (("a",), None), key, {"a": value}), ["a"], [(key, cells)])

    def test_bad_key_goes_first(self):
        table = table_of(self.pages, ["a"], [(1, (("a", 1),))])
        for key in NO_KEYS + [ANY]:
            for cells in ({}, {"a": 1}, {"b": 1}, {"a": True}):
                with self.subTest(key=key, cells=cells):
                    self.refused(BadKey, put_row, self.pages, table, key, cells)

    def test_no_column_whatever_the_value(self):
        table = table_of(self.pages, ["b", "d"], [(1, (("b", 1),))])
        others = ["", " ", "a", "bb", "B", "c", "e", "~", "b ", "x" * 13, "x" * 41, "b" * 500, "7"]
        for column, value in itertools.product(others, PLAIN[:3] + NO_PLAIN + [ANY]):
            with self.subTest(column=column, value=value):
                self.refused(NoColumn, put_row, self.pages, table, 1, {column: value}, column=column)
                self.refused(NoColumn, put_row, self.pages, no_table(), 1, {column: value}, column=column)

    def test_what_is_no_plain_value(self):
        table = table_of(self.pages, ["a", "b"], [(1, (("b", CLASHES[0]),))])
        for value in NO_PLAIN + [ANY]:
            for cells in ({"a": value}, {"a": 1, "b": value}, {"b": value, "a": None}):
                with self.subTest(value=value):
                    self.refused(BadValue, put_row, self.pages, table, 1, cells)

    def test_the_first_that_is_to_be_refused_goes(self):
        table = (("b", "d", "f"), None)
        refusals = [
            ({"c": 1, "b": True}, BadValue, None),
            ({"c": 1, "b": 1, "d": True}, NoColumn, "c"),
            ({"g": 1, "f": True}, BadValue, None),
            ({"g": 1, "e": 1}, NoColumn, "e"),
            ({"f": True, "a": 1}, NoColumn, "a"),
            ({"ba": 1, "b": True}, BadValue, None),
            ({"b" * 500: 1, "d": True}, NoColumn, "b" * 500),
            ({"d": True, "": 1}, NoColumn, ""),
            ({"~": 1, "f": 1, " ": 1}, NoColumn, " "),
            ({"ea": 1, "e": 1}, NoColumn, "e"),
            ({"eb": 1, "eaz": 1}, NoColumn, "eaz"),
            ({"z": 1, "Z": 1}, NoColumn, "Z"),
            ({"f": CLASHES[0], "e": CLASHES[0]}, NoColumn, "e"),
        ]
        for cells, error, column in refusals:
            for given in (cells, dict(reversed(list(cells.items())))):
                with self.subTest(given=given), self.assertRaises(error) as caught:
                    put_row(self.pages, table, 1, given)
                self.assertEqual(getattr(caught.exception, "column", None), column)

    def test_the_dict_is_the_askers_own(self):
        given = {"b": 1, "a": None}
        table = put_row(self.pages, (("a", "b"), None), 5, given)
        self.assertEqual(list(given.items()), [("b", 1), ("a", None)])
        given["a"] = 2
        given.pop("b")
        self.reads(table, ["a", "b"], [(5, (("b", 1),))])

    def test_many_rows_in_any_order(self):
        columns, rows = SHEETS["30 columns, 300 rows"]
        plain = [(key, tuple(cell for cell in cells if cell[1] not in CLASHES)) for key, cells in rows]
        for step in (7, 11, 299):
            table = (tuple(columns), None)
            for key, cells in shuffled(plain, step):
                table = put_row(self.pages, table, key, dict(cells))
            self.reads(table, columns, plain)


class RowsTaken(Tables):
    def test_each(self):
        for table, columns, rows in self.sheets():
            for at in range(0, len(rows), 1 if len(rows) < 100 else 30):
                self.reads(take_row(self.pages, table, rows[at][0]), columns, rows[:at] + rows[at + 1:])
            self.reads(table, columns, rows)

    def test_all_one_by_one(self):
        columns, rows = SHEETS["300 rows"]
        table = table_of(self.pages, columns, rows)
        for key in shuffled(MANY, 7):
            table = take_row(self.pages, table, key)
        self.assertEqual(table, (tuple(columns), None))

    def test_put_and_taken_again(self):
        for table, columns, rows in self.sheets():
            more = put_row(self.pages, table, "new", {})
            self.assertEqual(take_row(self.pages, more, "new"), table)

    def test_what_is_no_key(self):
        for table, columns, rows in self.sheets():
            for key in NO_KEYS + [ANY] if len(rows) < 50 else NO_KEYS[:2]:
                self.refused(BadKey, take_row, self.pages, table, key)

    def test_what_is_no_row(self):
        for table, columns, rows in self.sheets():
            for key in (LEAST + 1, -(10**29), 12345678, GREATEST - 1, "  ", "none such", "~" * 39, "7 "):
                self.refused(NoRow, take_row, self.pages, table, key, key=key)

    def test_a_number_is_not_the_text_of_its_figures(self):
        table = table_of(self.pages, [], [(5, ()), ("6", ())])
        self.refused(NoRow, take_row, self.pages, table, "5", key="5")
        self.refused(NoRow, take_row, self.pages, table, 6, key=6)


class CellsPut(Tables):
    def test_each_value_in_each_place(self):
        for table, columns, rows in self.sheets():
            for at in range(0, len(rows), 3 if len(rows) < 100 else 90):
                key, cells = rows[at]
                for place, column in list(enumerate(columns))[:: 1 if len(columns) < 4 else 7]:
                    value = PLAIN[(at + place) % len(PLAIN)]
                    wanted = (key, plain_cells({**dict(cells), column: value}))
                    more = put_cell(self.pages, table, key, column, value)
                    self.reads(more, columns, rows[:at] + [wanted] + rows[at + 1:])
            self.reads(table, columns, rows)

    def test_clashes_and_values_turned_and_emptied(self):
        for old, new in itertools.product(PLAIN[1:] + CLASHES, PLAIN):
            others = (("a", CLASHES[0]), ("c", 7))
            rows = [(LEAST, ()), (5, (others[0], ("b", old), others[1])), (GREATEST_TEXT, others)]
            table = table_of(self.pages, ["a", "b", "c"], rows)
            cells = others if new is None else (others[0], ("b", new), others[1])
            wanted = [rows[0], (5, cells), rows[2]]
            self.reads(put_cell(self.pages, table, 5, "b", new), ["a", "b", "c"], wanted)

    def test_the_last_cell_emptied_leaves_the_row(self):
        table = table_of(self.pages, ["a"], [(5, (("a", CLASHES[0]),))])
        self.reads(put_cell(self.pages, table, 5, "a", None), ["a"], [(5, ())])

    def test_the_same_value_is_the_same_table(self):
        for table, columns, rows in self.sheets():
            for key, cells in rows[::10]:
                for column in columns[::5]:
                    value = dict(cells).get(column)
                    if value not in CLASHES:
                        self.assertEqual(put_cell(self.pages, table, key, column, value), table)

    def test_each_refusal_goes_ahead_of_those_behind(self):
        table = table_of(self.pages, ["a", "c"], [(5, (("a", 1),)), ("x", ())])
        no_columns = NO_WORDS + ["b", "aa", ANY]
        for key in NO_KEYS + [ANY]:
            for column, value in itertools.product(["a", "b", 5, None, []], [1, True]):
                self.refused(BadKey, put_cell, self.pages, table, key, column, value)
        for key, column, value in itertools.product([5, 6, "x", GREATEST], no_columns, [1, None, True, CLASHES[0]]):
            self.refused(NoColumn, put_cell, self.pages, table, key, column, value, column=column)
        for key, value in itertools.product([5, 6, "x", GREATEST], NO_PLAIN + [ANY]):
            self.refused(BadValue, put_cell, self.pages, table, key, "a", value)
        for key, value in itertools.product([4, 6, LEAST, GREATEST, "5", "X", LEAST_TEXT, GREATEST_TEXT], PLAIN):
            self.refused(NoRow, put_cell, self.pages, table, key, "a", value, key=key)

    def test_refused_of_no_table(self):
        self.refused(NoColumn, put_cell, self.pages, no_table(), 5, "a", 1, column="a")
        self.refused(NoRow, put_cell, self.pages, (("a",), None), 5, "a", 1, key=5)


class Reading(Tables):
    def keys(self, rows):
        return [row[0] for row in rows] + [LEAST + 2, 123456, GREATEST - 2, "  ", "none such", "~" * 38]

    def test_rows_and_cells(self):
        for table, columns, rows in self.sheets():
            cells_by_key = dict(rows)
            for key in self.keys(rows):
                cells = cells_by_key.get(key)
                row = row_at(self.pages, table, key)
                if cells is None:
                    self.assertIsNone(row)
                else:
                    self.assertIsInstance(row, dict)
                    self.assertEqual(list(row.items()), list(plain_row(columns, cells).items()))
                for column in columns + ["none", "", " ", "x" * 41, "A"]:
                    self.assertEqual(cell_at(self.pages, table, key, column), dict(cells or ()).get(column))

    def test_a_key_is_no_other_one(self):
        table = table_of(self.pages, ["a"], [(5, (("a", 1),)), ("6", (("a", 2),))])
        self.assertEqual(cell_at(self.pages, table, 5, "a"), 1)
        self.assertIsNone(cell_at(self.pages, table, "5", "a"))
        self.assertIsNone(cell_at(self.pages, table, 6, "a"))
        self.assertEqual(row_at(self.pages, table, "6"), {"a": 2})
        self.assertIsNone(row_at(self.pages, table, 6))

    def test_a_row_without_cells_is_there(self):
        self.assertEqual(row_at(self.pages, table_of(self.pages, [], [(5, ())]), 5), {})
        self.assertEqual(row_at(self.pages, table_of(self.pages, ["a", "b"], [(5, ())]), 5), {"a": None, "b": None})
        self.assertIsNone(row_at(self.pages, (("a", "b"), None), 5))

    def test_from_low_to_high(self):
        ends = [None, LEAST, -1, 0, 7, 12345, GREATEST, LEAST_TEXT, "k", "row 100", "~", GREATEST_TEXT]
        for table, columns, rows in self.sheets():
            for low, high in itertools.product(ends, ends):
                within = [
                    (key, plain_row(columns, cells)) for key, cells in rows
                    if (low is None or order(low) <= order(key)) and (high is None or order(key) <= order(high))
                ]
                found = rows_in(self.pages, table, low, high)
                self.assertIsInstance(found, list)
                self.assertEqual(found, within)
                self.assertTrue(all(isinstance(pair, tuple) and list(pair[1]) == columns for pair in found))
                self.assertEqual(rows_in(self.pages, table, low=low, high=high), within)
            self.assertEqual(rows_in(self.pages, table), rows_in(self.pages, table, None, None))
            self.assertEqual(rows_in(self.pages, table, 0), rows_in(self.pages, table, 0, None))
            self.assertEqual(rows_in(self.pages, table, high=0), rows_in(self.pages, table, None, 0))

    def test_what_is_told_is_the_askers_own(self):
        table = table_of(self.pages, ["a", "b"], [(1, (("a", 1),)), (2, ())])
        row_at(self.pages, table, 1)["a"] = 9
        row_at(self.pages, table, 2).clear()
        found = rows_in(self.pages, table)
        found[0][1]["a"] = 9
        found.clear()
        self.reads(table, ["a", "b"], [(1, (("a", 1),)), (2, ())])

    def test_nothing_is_kept_for_a_reading(self):
        table = table_of(self.pages, *SHEETS["300 rows"])
        before = (self.pages.dealt(), self.pages.numbers())
        row_at(self.pages, table, 7)
        cell_at(self.pages, table, 7, "a")
        rows_in(self.pages, table, 7)
        self.assertEqual((self.pages.dealt(), self.pages.numbers()), before)


class ByWhateverDeeds(Tables):
    """Of [4]: the same columns, rows and cells are one table, and all tables on the way read as before."""

    def deed(self, dice, table, plain, keys, words):
        columns, rows = plain
        key = dice.one_of(keys)
        column = dice.one_of(words)
        value = dice.one_of(PLAIN)
        choice = dice.below(12)
        if choice == 0:
            if column in columns:
                left = {one: {name: cell for name, cell in rows[one].items() if name != column} for one in rows}
                return drop_column(self.pages, table, column), (columns - {column}, left)
            return put_column(table, column), (columns | {column}, rows)
        if choice < 5:
            given = {name: dice.one_of(PLAIN) for name in sorted(columns) if dice.below(2)}
            return put_row(self.pages, table, key, given), (columns, {**rows, key: given})
        if choice < 8 and key in rows:
            left = {one: rows[one] for one in rows if one != key}
            return take_row(self.pages, table, key), (columns, left)
        if key in rows and column in columns:
            changed = {**rows[key], column: value}
            return put_cell(self.pages, table, key, column, value), (columns, {**rows, key: changed})
        return table, plain

    def written(self, plain):
        columns, rows = plain
        return sorted(columns), [(key, plain_cells(rows[key])) for key in sorted(rows, key=order)]

    def test_many_deeds(self):
        for seed in range(6):
            dice = Dice(seed)
            keys = shuffled(MANY, 7)[: 4 + seed * 9]
            words = shuffled(WORDS, 7)[: 2 + seed]
            table, plain = no_table(), (set(), {})
            met = []
            for step in range(120):
                table, plain = self.deed(dice, table, plain, keys, words)
                met.append((table, self.written(plain)))
            for old, (columns, rows) in met:
                self.reads(old, columns, rows)
            for (one, one_written), (other, other_written) in itertools.combinations(met, 2):
                self.assertEqual(one == other, one_written == other_written)

    def test_unlike_columns_alone(self):
        self.assertNotEqual(put_column(no_table(), "a"), put_column(no_table(), "b"))
        one = put_row(self.pages, (("a",), None), 5, {"a": None})
        other = put_row(self.pages, ((), None), 5, {})
        self.assertNotEqual(one, other)
        self.assertEqual(one[1], other[1])
        self.assertEqual(drop_column(self.pages, one, "a"), other)

    def test_two_stores_have_nothing_to_do_with_one_another(self):
        other = Pages()
        table = put_row(self.pages, (("a",), None), 5, {"a": 1})
        self.assertEqual(other.numbers(), [])
        put_row(other, (("a",), None), 6, {"a": 2})
        self.reads(table, ["a"], [(5, (("a", 1),))])

    def test_more_rows_than_a_table_holds_are_not_refused(self):
        # What lies somewhat beyond a bound is not refused.
        rows = rows_of_columns(["a"], list(range(610)), PLAIN)
        table = table_of(self.pages, ["a"], rows)
        more = put_row(self.pages, table, "x", {"a": 1})
        self.reads(more, ["a"], rows + [("x", (("a", 1),))])


if __name__ == "__main__":
    unittest.main()
