"""Pages of rows or of heads, and a store that keeps each page once, under a number."""

from twigtable.errors import NoPage


class Page:
    def __init__(self, level, entries):
        self.level = level
        self.entries = tuple(entries)

    def told(self):
        return (self.level, self.entries)

    def first(self):
        return self.entries[0][0]

    def many(self):
        return len(self.entries)

    def under(self):
        return []

    def spread(self, pages):
        rows = []
        for number in self.under():
            rows.extend(pages.page(number).spread(pages))
        return rows


class Leaf(Page):
    def __init__(self, rows):
        Page.__init__(self, 0, rows)
        self.rows = self.entries

    def spread(self, pages):
        return list(self.rows)


class Twig(Page):
    def __init__(self, level, heads):
        Page.__init__(self, level, heads)
        self.heads = self.entries

    def under(self):
        return [head[1] for head in self.heads]


def page_of(level, entries):
    if level == 0:
        return Leaf(entries)
    return Twig(level, entries)


class Pages:
    # What is kept is how a page is told, not the page, so that a page handed in or out is the asker's own.
    def __init__(self):
        self.told_by_number = {}
        self.number_by_told = {}
        self.count = 0

    def kept(self, page):
        told = page.told()
        if told in self.number_by_told:
            return self.number_by_told[told]
        number = self.count
        self.told_by_number[number] = told
        self.number_by_told[told] = number
        self.count = number + 1
        return number

    def told_at(self, number):
        if number not in self.told_by_number:
            raise NoPage(number)
        return self.told_by_number[number]

    def page(self, number):
        told = self.told_at(number)
        return page_of(told[0], told[1])

    # A card is told without the page, for a root's card is asked for where the page is not looked at.
    def card(self, number):
        told = self.told_at(number)
        return (told[0], told[1][0][0])

    def numbers(self):
        return sorted(self.told_by_number)

    def dealt(self):
        return self.count

    def skip(self, count):
        self.count = max(self.count, count)

    def drop(self, number):
        told = self.told_at(number)
        self.told_by_number.pop(number)
        self.number_by_told.pop(told)
