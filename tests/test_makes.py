"""Points [51] to [54], and [2] and [3] for them: makes under numbers, their elders, their lines, and makes dropped."""

import itertools
import unittest

from helper import Dice, QuickCase, SHEETS

from twigtable.errors import BadElders, NoMake, TableError
from twigtable.makes import Makes
from twigtable.pages import Pages
from twigtable.tables import no_table, put_row
from twigtable.trees import built

TABLE = (("a", "b"), 7)


def everything(makes):
    """All that can be asked of makes."""
    told = [(number, makes.elders(number), makes.table(number), makes.line(number)) for number in makes.numbers()]
    return (makes.dealt(), told)


def makes_of(*all_elders):
    """Makes 1, 2 and so on, each of the elders told."""
    makes = Makes()
    for number, elders in enumerate(all_elders, 1):
        assert makes.made(list(elders), (("a",), number)) == number
    return makes


def plain_line(elders_by_number, number):
    line = {number}
    for elder in elders_by_number[number]:
        line |= set(plain_line(elders_by_number, elder))
    return sorted(line)


class MakesCase(QuickCase):
    def refused(self, makes, error, number, function, *given):
        before = everything(makes)
        with self.assertRaises(TableError) as caught:
            function(*given)
        self.assertIs(type(caught.exception), error)
        self.assertEqual(getattr(caught.exception, "number", None), number)
        self.assertEqual(everything(makes), before)

    def unknown(self, makes, number):
        """The number is refused wherever it is asked for."""
        for method in (makes.elders, makes.table, makes.line, makes.drop):
            self.refused(makes, NoMake, number, method, number)
        self.refused(makes, NoMake, number, makes.made, [number], TABLE)
        self.assertNotIn(number, makes.numbers())


class Making(MakesCase):
    def test_at_first(self):
        makes = Makes()
        self.assertEqual(makes.numbers(), [0])
        self.assertEqual(makes.dealt(), 1)
        self.assertEqual(makes.elders(0), ())
        self.assertEqual(makes.table(0), ((), None))
        self.assertEqual(makes.line(0), [0])

    def test_numbers_go_up_by_one(self):
        makes = Makes()
        for number in range(1, 200):
            self.assertEqual(makes.dealt(), number)
            self.assertEqual(makes.made([number // 2], TABLE), number)
            self.assertEqual(makes.dealt(), number + 1)
        self.assertEqual(makes.numbers(), list(range(200)))

    def test_the_elders(self):
        for given, wanted in [
            ([0], (0,)),
            ([2], (2,)),
            ([0, 0, 0], (0,)),
            ([2, 2], (2,)),
            ([1, 2], (1, 2)),
            ([2, 1], (1, 2)),
            ([2, 0], (0, 2)),
            ([2, 1, 2, 1, 1], (1, 2)),
            ([1] * 300 + [0] * 300, (0, 1)),
        ]:
            makes = makes_of([0], [0])
            kept = list(given)
            self.assertEqual(makes.made(given, TABLE), 3)
            self.assertEqual(given, kept)
            self.assertEqual(makes.elders(3), wanted)
            self.assertIs(type(makes.elders(3)), tuple)
            self.assertEqual((makes.elders(1), makes.elders(2)), ((0,), (0,)))

    def test_elders_that_are_not_one_or_two(self):
        makes = makes_of([0], [0], [1, 2])
        for elders in ([], [0, 1, 2], [3, 1, 0], [2, 0, 2, 1], [0, 1, 2, 3], [7, 8, 9], [0, 1, 9], [-1, 0, 1]):
            with self.subTest(elders=elders):
                self.refused(makes, BadElders, None, makes.made, elders, TABLE)

    def test_elders_that_are_not_there(self):
        makes = makes_of([0], [0], [1, 2])
        for elders, least in [
            ([4], 4),
            ([4, 4], 4),
            ([-1], -1),
            ([10**30], 10**30),
            ([0, 4], 4),
            ([4, 0], 4),
            ([5, 4], 4),
            ([4, 5], 4),
            ([9, -1], -1),
            ([-1, 0], -1),
            ([-2, -1], -2),
            ([10, 9, 10, 9], 9),
        ]:
            with self.subTest(elders=elders):
                self.refused(makes, NoMake, least, makes.made, elders, TABLE)

    def test_a_refusal_gives_no_number_away(self):
        makes = Makes()
        for elders in ([], [1], [1, 2], [0, 1, 2]):
            with self.assertRaises(TableError):
                makes.made(elders, TABLE)
        self.assertEqual((makes.dealt(), makes.made([0], TABLE)), (1, 1))

    def test_tables_are_told_as_they_were_handed_in(self):
        pages = Pages()
        makes = Makes()
        tables = [(tuple(columns), built(pages, rows)) for columns, rows in SHEETS.values()]
        # Pages that do not stand are not asked for, nor is anything else of a table.
        tables += [((), 10**29), (("b", "a"), None), (("a",), -1)]
        for number, table in enumerate(tables, 1):
            makes.made([number - 1], table)
        for number, table in enumerate(tables, 1):
            self.assertEqual(makes.table(number), table)
        self.assertEqual(makes.table(0), no_table())

    def test_a_make_reads_as_before_when_its_table_is_changed(self):
        pages = Pages()
        makes = Makes()
        table = put_row(pages, (("a",), None), 5, {"a": 1})
        number = makes.made([0], table)
        other = makes.made([number], put_row(pages, makes.table(number), 5, {"a": 2}))
        self.assertEqual(makes.table(number), table)
        self.assertNotEqual(makes.table(other), table)

    def test_the_same_table_may_be_made_again(self):
        makes = Makes()
        self.assertEqual([makes.made([0], TABLE) for time in range(3)], [1, 2, 3])
        self.assertEqual([makes.table(number) for number in (1, 2, 3)], [TABLE] * 3)

    def test_what_is_handed_in_and_back_is_the_askers_own(self):
        makes = Makes()
        elders = [0]
        makes.made(elders, TABLE)
        before = everything(makes)
        elders.append(1)
        elders[0] = 5
        makes.numbers().clear()
        makes.line(1).append(9)
        self.assertEqual(everything(makes), before)

    def test_two_have_nothing_to_do_with_one_another(self):
        one, other = Makes(), Makes()
        one.made([0], TABLE)
        one.skip(9)
        self.assertEqual(everything(other), (1, [(0, (), ((), None), [0])]))

    def test_what_was_told_stays(self):
        makes = Makes()
        numbers, line = makes.numbers(), makes.line(0)
        makes.made([0], TABLE)
        self.assertEqual((numbers, line), ([0], [0]))

    def test_numbers_that_are_not_there(self):
        makes = makes_of([0], [1])
        for number in (-1, 3, 4, 10**29, -(10**29)):
            self.unknown(makes, number)


class Skipping(MakesCase):
    def test_to_a_greater_count(self):
        makes = makes_of([0])
        self.assertIsNone(makes.skip(7))
        self.assertEqual(makes.dealt(), 7)
        self.assertEqual(makes.numbers(), [0, 1])
        self.assertEqual(makes.made([0, 1], TABLE), 7)
        self.assertEqual((makes.dealt(), makes.numbers()), (8, [0, 1, 7]))
        self.assertEqual(makes.line(7), [0, 1, 7])
        for number in (2, 6, 8):
            self.unknown(makes, number)

    def test_to_a_count_that_is_not_greater(self):
        makes = makes_of([0], [0])
        before = everything(makes)
        for count in (3, 2, 1, 0):
            self.assertIsNone(makes.skip(count))
            self.assertEqual(everything(makes), before)

    def test_at_first(self):
        for count, wanted in [(0, 1), (1, 1), (2, 2), (10**29 - 1, 10**29 - 1)]:
            makes = Makes()
            makes.skip(count)
            self.assertEqual(makes.dealt(), wanted)
            self.assertEqual(makes.made([0], TABLE), wanted)
            self.assertEqual(makes.line(wanted), [0, wanted])
            self.assertEqual(makes.dealt(), wanted + 1)

    def test_more_than_once(self):
        makes = Makes()
        made = []
        for count in (5, 3, 6, 20, 19):
            makes.skip(count)
            made.append(makes.made([0], TABLE))
        self.assertEqual(made, [5, 6, 7, 20, 21])


class Lines(MakesCase):
    def test_by_hand(self):
        makes = makes_of([0], [0], [1], [1, 2], [3, 4], [0], [6, 5], [6])
        for number, line in [
            (0, [0]),
            (1, [0, 1]),
            (2, [0, 2]),
            (3, [0, 1, 3]),
            (4, [0, 1, 2, 4]),
            (5, [0, 1, 2, 3, 4, 5]),
            (6, [0, 6]),
            (7, [0, 1, 2, 3, 4, 5, 6, 7]),
            (8, [0, 6, 8]),
        ]:
            self.assertEqual(makes.line(number), line)
            self.assertIs(type(makes.line(number)), list)

    def test_of_two_elders_one_in_the_line_of_the_other(self):
        makes = makes_of([0], [1], [1, 2], [0, 3])
        self.assertEqual(makes.line(3), [0, 1, 2, 3])
        self.assertEqual(makes.line(4), [0, 1, 2, 3, 4])

    def test_many_ways_to_one_elder(self):
        # There are more than 2**60 ways from the last make to make 0.
        makes = makes_of([0], *[[number - 1, number] for number in range(1, 100)])
        self.assertEqual(makes.line(100), list(range(101)))

    def test_a_long_line(self):
        makes = makes_of(*[[number] for number in range(199)])
        self.assertEqual(makes.line(199), list(range(200)))
        self.assertEqual(makes.line(100), list(range(101)))

    def test_many(self):
        for seed in range(5):
            dice = Dice(seed)
            all_elders = [[dice.below(number), dice.below(number)] for number in range(1, 13)]
            makes = makes_of(*all_elders)
            elders_by_number = {0: [], **dict(enumerate(all_elders, 1))}
            for number in makes.numbers():
                line = makes.line(number)
                self.assertEqual(line, plain_line(elders_by_number, number))
                self.assertEqual((line[0], line[-1]), (0, number))


class Dropping(MakesCase):
    def test_a_make_that_is_no_elder(self):
        makes = makes_of([0], [1], [1, 2])
        before = everything(makes)
        self.assertIsNone(makes.drop(3))
        self.assertEqual(everything(makes), (4, before[1][:3]))
        self.unknown(makes, 3)

    def test_the_number_is_not_given_again(self):
        makes = makes_of([0], [1])
        makes.drop(2)
        self.assertEqual(makes.dealt(), 3)
        self.assertEqual(makes.made([1], TABLE), 3)
        self.assertEqual(makes.numbers(), [0, 1, 3])
        makes.drop(3)
        makes.drop(1)
        self.assertEqual((makes.numbers(), makes.dealt()), ([0], 4))
        self.assertEqual(makes.made([0], TABLE), 4)
        for number in (1, 2, 3):
            self.unknown(makes, number)

    def test_a_dropped_make_is_no_elder(self):
        makes = makes_of([0], [0], [0])
        makes.drop(2)
        for elders in ([2], [2, 0], [2, 3], [1, 2], [2, 2], [2, 9]):
            self.refused(makes, NoMake, 2, makes.made, elders, TABLE)

    def test_make_0_is_never_dropped(self):
        for makes in (Makes(), makes_of([0], [1])):
            self.refused(makes, NoMake, 0, makes.drop, 0)
        makes = makes_of([0])
        makes.drop(1)
        self.refused(makes, NoMake, 0, makes.drop, 0)
        self.assertEqual(makes.line(0), [0])

    def test_heirs_ahead_of_their_elders(self):
        makes = makes_of([0], [1], [1], [2, 3], [4])
        for number, left in [(5, [0, 1, 2, 3, 4]), (4, [0, 1, 2, 3]), (2, [0, 1, 3]), (3, [0, 1]), (1, [0])]:
            makes.drop(number)
            self.assertEqual(makes.numbers(), left)
            self.unknown(makes, number)
        self.assertEqual(makes.dealt(), 6)

    def test_the_rest_is_as_before(self):
        for dropped in itertools.permutations([3, 4, 5], 2):
            makes = makes_of([0], [0], [1, 2], [1], [2])
            before = dict((told[0], told) for told in everything(makes)[1])
            for number in dropped:
                makes.drop(number)
            left = [before[number] for number in range(6) if number not in dropped]
            self.assertEqual(everything(makes), (6, left))


if __name__ == "__main__":
    unittest.main()
