"""Makes: tables kept under numbers, each with the elders of which it was made."""

from twigtable.errors import BadElders, NoMake
from twigtable.tables import no_table
from twigtable.words import in_order


class Makes:
    def __init__(self):
        self.table_by_number = {0: no_table()}
        self.elders_by_number = {0: ()}
        self.count = 1

    def made(self, elders, table):
        numbers = in_order(elders)
        if len(numbers) != 1 and len(numbers) != 2:
            raise BadElders()
        for elder in numbers:
            self.ask(elder)
        number = self.count
        self.table_by_number[number] = table
        self.elders_by_number[number] = tuple(numbers)
        self.count = number + 1
        return number

    def ask(self, number):
        if number not in self.table_by_number:
            raise NoMake(number)

    def elders(self, number):
        self.ask(number)
        return self.elders_by_number[number]

    def table(self, number):
        self.ask(number)
        return self.table_by_number[number]

    def line(self, number):
        found = {}
        ahead = [number]
        while ahead:
            make = ahead.pop()
            # Two ways may lead to one elder, and its own elders are gone through once.
            if make not in found:
                found[make] = True
                ahead.extend(self.elders(make))
        return sorted(found)

    def numbers(self):
        return sorted(self.table_by_number)

    def dealt(self):
        return self.count

    def skip(self, count):
        self.count = max(self.count, count)

    def drop(self, number):
        self.ask(number)
        if number == 0:
            raise NoMake(number)
        self.table_by_number.pop(number)
        self.elders_by_number.pop(number)
