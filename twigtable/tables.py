"""Tables: columns beside the tree of the rows; columns, rows and cells put, taken and read."""

from twigtable.edits import put, take
from twigtable.errors import BadKey, BadValue, BadWord, ColumnThere, NoColumn, NoRow
from twigtable.seeks import seek, stretch
from twigtable.trees import built, rows_of
from twigtable.words import in_order, is_key, is_plain, is_word


def no_table():
    return ((), None)


# What is no text is turned away first, for it might hold itself equal to a column.
def has_column(table, column):
    return isinstance(column, str) and column in table[0]


def ask_key(key):
    if not is_key(key):
        raise BadKey()


def ask_cell(table, column, value):
    if not has_column(table, column):
        raise NoColumn(column)
    if not is_plain(value):
        raise BadValue()


def put_column(table, column):
    if not is_word(column):
        raise BadWord()
    if has_column(table, column):
        raise ColumnThere(column)
    return (tuple(in_order(list(table[0]) + [column])), table[1])


def drop_column(pages, table, column):
    if not has_column(table, column):
        raise NoColumn(column)
    columns = tuple([one for one in table[0] if one != column])
    rows = [(row[0], cells_with(row[1], column, None)) for row in rows_of(pages, table[1])]
    return (columns, built(pages, rows))


# A row's cells with a value in the column; None leaves the column out, as for any empty cell.
def cells_with(cells, column, value):
    values = dict(cells)
    values[column] = value
    return cells_of(values)


def cells_of(values):
    return tuple([(column, values[column]) for column in in_order(list(values)) if values[column] is not None])


def put_row(pages, table, key, cells):
    ask_key(key)
    for column in in_order(list(cells)):
        ask_cell(table, column, cells[column])
    return (table[0], put(pages, table[1], key, cells_of(cells)))


def take_row(pages, table, key):
    ask_key(key)
    return (table[0], take(pages, table[1], key))


def put_cell(pages, table, key, column, value):
    ask_key(key)
    ask_cell(table, column, value)
    cells = seek(pages, table[1], key)[0]
    if cells is None:
        raise NoRow(key)
    return (table[0], put(pages, table[1], key, cells_with(cells, column, value)))


def row_told(table, cells):
    values = dict(cells)
    row = {}
    for column in table[0]:
        row[column] = values.get(column)
    return row


def cell_at(pages, table, key, column):
    row = row_at(pages, table, key)
    return None if row is None else row.get(column)


def row_at(pages, table, key):
    cells = seek(pages, table[1], key)[0]
    return None if cells is None else row_told(table, cells)


def rows_in(pages, table, low=None, high=None):
    rows = stretch(pages, table[1], low, high)[0]
    return [(row[0], row_told(table, row[1])) for row in rows]
