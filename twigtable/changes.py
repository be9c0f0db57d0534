"""Changes of one row each: put in, taken out or turned; told, turned back and made on a tree."""

from twigtable.edits import put, take
from twigtable.errors import Unfit
from twigtable.seeks import seek
from twigtable.words import in_order


class Change:
    def __init__(self, key, old, new):
        self.key = key
        self.old = old
        self.new = new

    def told(self):
        if self.old is None:
            return ("in", self.key, self.new)
        if self.new is None:
            return ("out", self.key, self.old)
        return ("turned", self.key, self.old, self.new)

    def back(self):
        return change_of(self.key, self.new, self.old)

    def cells_told(self):
        olds = values_of(self.old)
        news = values_of(self.new)
        cells = []
        for column in in_order(list(olds) + list(news)):
            if olds.get(column) != news.get(column):
                cells.append((column, olds.get(column), news.get(column)))
        return cells

    def onto(self, pages, root):
        if seek(pages, root, self.key)[0] != self.old:
            raise Unfit(self.key)
        if self.new is None:
            return take(pages, root, self.key)
        return put(pages, root, self.key, self.new)


class PutIn(Change):
    def __init__(self, key, new):
        Change.__init__(self, key, None, new)


class TakenOut(Change):
    def __init__(self, key, old):
        Change.__init__(self, key, old, None)


class Turned(Change):
    pass


# Of old and new, which are cells or None, one at least is not None.
def change_of(key, old, new):
    if old is None:
        return PutIn(key, new)
    if new is None:
        return TakenOut(key, old)
    return Turned(key, old, new)


def values_of(cells):
    return {} if cells is None else dict(cells)
