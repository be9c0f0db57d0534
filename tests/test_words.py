"""Points [11] to [14], and [2] for them: kinds, the order, places, clashes."""

import itertools
import unittest

from twigtable.words import (
    base_of,
    before,
    clash_of,
    in_order,
    is_clash,
    is_key,
    is_plain,
    is_value,
    is_whole,
    is_word,
    place_of,
    sides_of,
)

BOUND = 10**30
# Every sign that a text may have, in their order.
SIGNS = "".join(chr(number) for number in range(32, 127) if number != 37)
NO_SIGNS = ["%", "\n", "\t", "\r", "\0", "\x1f", "\x7f", "\x80", "\xe9", "\u0663", "\u2028", "\U0001f600"]
# Plain values, rising.
RISING = [
    None, 1 - BOUND, -12, -2, -1, 0, 1, 2, 9, 10, BOUND - 1,
    "", " ", " a", "!", "-1", "0", "1", "10", "2", "A", "Z", "Z~", "a", "a ", "a b", "aa", "ab", "a~", "b", "~", "~" * 40,
]
STRANGE = [
    True, False, 1.0, 0.0, float("nan"), 1j, b"", b"a", bytearray(b"a"), [], [1], ["a"], (), (1,), {}, {1: 2},
    set(), frozenset([1]), object(), int, str, len, range(3), Exception(), NotImplemented, ...,
]
MANY_NOWS = tuple(range(61))


class ByKind(unittest.TestCase):
    def told(self, question, thing, answer):
        with self.subTest(question.__name__, thing=thing):
            self.assertIs(question(thing), answer)


class Kinds(ByKind):
    def test_whole_numbers(self):
        for number in (0, 1, -1, BOUND - 1, BOUND, -BOUND, 10**100):
            self.told(is_whole, number, True)
        for thing in STRANGE + [None, "", "1", (0, (1, 2))]:
            self.told(is_whole, thing, False)

    def test_numbers_within_the_bounds(self):
        for question in (is_key, is_plain, is_value):
            for number in (0, 7, -7, BOUND - 1, 1 - BOUND):
                self.told(question, number, True)
            for number in (BOUND, -BOUND, BOUND + 1, -BOUND - 1, 10**100):
                self.told(question, number, False)

    def test_texts_by_their_length(self):
        for question in (is_key, is_plain, is_value):
            for text in ("a", " ", "~", "a b", "x" * 40, " " * 40):
                self.told(question, text, True)
            for text in ("x" * 41, "x" * 1000):
                self.told(question, text, False)
        self.told(is_key, "", False)
        self.told(is_plain, "", True)
        self.told(is_value, "", True)

    def test_texts_by_their_signs(self):
        for question in (is_key, is_plain, is_value):
            for sign in SIGNS:
                self.told(question, sign, True)
            for sign in NO_SIGNS:
                for text in (sign, "a" + sign, sign + "a", "a" + sign + "a"):
                    self.told(question, text, False)

    def test_none_is_plain_and_no_key(self):
        self.told(is_plain, None, True)
        self.told(is_value, None, True)
        self.told(is_key, None, False)
        self.told(is_clash, None, False)
        self.told(is_word, None, False)

    def test_strange_things_are_nothing_of_it(self):
        for question in (is_key, is_plain, is_clash, is_value, is_word):
            for thing in STRANGE:
                self.told(question, thing, False)

    def test_clashes(self):
        clashes = [
            (None, (None, 1)),
            (5, (None, "a")),
            (5, (5, 6)),
            ("", ("", "a", "b")),
            (1 - BOUND, (1 - BOUND, BOUND - 1)),
            ("x" * 40, (-1, "x" * 40)),
            (3, tuple(RISING)),
            (None, MANY_NOWS),
            (None, tuple(range(600))),
        ]
        for clash in clashes:
            self.told(is_clash, clash, True)
            self.told(is_value, clash, True)
            self.told(is_plain, clash, False)
            self.told(is_key, clash, False)

    def test_what_is_no_clash(self):
        no_clashes = [
            (5, ()),
            (5, (6,)),
            (5, (6, 6)),
            (5, (6, 5)),
            (5, (1, 3, 2)),
            (5, (1, 2, 2)),
            (5, ("a", 1)),
            (5, (1, None)),
            (5, [6, 7]),
            [5, (6, 7)],
            [5, [6, 7]],
            (5, (6, 7), 8),
            (5,),
            ((6, 7),),
            ((6, 7), 5),
            (5, 6),
            (5, "ab"),
            (5, None),
            (5, {6: 1, 7: 1}),
            (True, (6, 7)),
            (5, (False, 7)),
            (5, (6, True)),
            (5, (True, False)),
            (1.0, (6, 7)),
            (5, (6, 7.5)),
            (BOUND, (6, 7)),
            (5, (6, BOUND)),
            (5, (-BOUND, 6)),
            ("x" * 41, (6, 7)),
            (5, (6, "x" * 41)),
            ("%", (6, 7)),
            (5, (6, "\n")),
            ((1, (2, 3)), (6, 7)),
            (5, (6, (1, (2, 3)))),
            (5, ([], {})),
            (5, MANY_NOWS + (60,)),
        ]
        for thing in no_clashes:
            self.told(is_clash, thing, False)
            self.told(is_value, thing, False)

    def test_words(self):
        for word in ("a", "z", "main", "abcdefghijkl", "mnopqrstuvwx", "yz"):
            self.told(is_word, word, True)
        for text in ("", "abcdefghijklm", "A", "Main", "maiN", "a b", " a", "a ", "a1", "0", "a_b", "a-b", "`", "{"):
            self.told(is_word, text, False)
        for sign in NO_SIGNS:
            self.told(is_word, "a" + sign, False)
        for thing in (0, 7, ("a",), ["a"], (None, (None, 1))):
            self.told(is_word, thing, False)


class Order(unittest.TestCase):
    def test_every_two_of_a_rising_list(self):
        for (one_place, one), (other_place, other) in itertools.product(enumerate(RISING), repeat=2):
            with self.subTest(one=one, other=other):
                self.assertIs(before(one, other), one_place < other_place)

    def test_signs_stand_in_the_order_of_ascii(self):
        for one, other in itertools.product(SIGNS, repeat=2):
            self.assertIs(before(one, other), ord(one) < ord(other))

    def test_a_beginning_comes_before_the_whole(self):
        whole = "a b~ 0Az" * 5
        for count in range(len(whole)):
            self.assertIs(before(whole[:count], whole), True)
            self.assertIs(before(whole, whole[:count]), False)

    def test_the_first_unlike_sign_goes_ahead_of_the_length(self):
        self.assertIs(before("aaz", "ab"), True)
        self.assertIs(before("ab", "aaz"), False)

    def test_numbers_go_by_greatness_not_by_figures(self):
        self.assertIs(before(9, 10), True)
        self.assertIs(before(-10, -9), True)
        self.assertIs(before(10, 9), False)

    def test_no_value_comes_before_itself(self):
        for value in RISING:
            self.assertIs(before(value, value), False)


class InOrder(unittest.TestCase):
    def test_whatever_the_order_and_however_often(self):
        values = [None, -1, 3, "", "a"]
        for many in itertools.permutations(values + [3, "a"]):
            self.assertEqual(in_order(list(many)), values)

    def test_a_long_list(self):
        self.assertEqual(in_order(RISING[::-1] + RISING + RISING[::3]), RISING)

    def test_the_same_value_many_times(self):
        for value in (None, 0, ""):
            self.assertEqual(in_order([value] * 5), [value])

    def test_empty(self):
        self.assertEqual(in_order([]), [])

    def test_what_is_handed_in_stays_and_what_comes_is_new(self):
        for values in ([3, None, "a", 3], [None, 3, "a"], []):
            copy = list(values)
            ordered = in_order(values)
            self.assertIsInstance(ordered, list)
            ordered.append("more")
            self.assertEqual(values, copy)
            self.assertEqual(in_order(values), ordered[:-1])


class Places(unittest.TestCase):
    def test_of_what_stands_in_the_list(self):
        for place, value in enumerate(RISING):
            self.assertEqual(place_of(RISING, value), place)

    def test_of_what_would_be_put_in(self):
        for place, value in enumerate(RISING):
            self.assertEqual(place_of(RISING[:place] + RISING[place + 1:], value), place)

    def test_in_every_part_of_a_list(self):
        values = RISING[::3]
        for start, end in itertools.combinations(range(len(values) + 1), 2):
            part = values[start:end]
            for value in RISING:
                self.assertEqual(place_of(part, value), len([one for one in part if before(one, value)]))

    def test_in_an_empty_list(self):
        for value in (None, 0, "", "a"):
            self.assertEqual(place_of([], value), 0)

    def test_at_both_ends(self):
        self.assertEqual(place_of([1, 2, 3], 0), 0)
        self.assertEqual(place_of([1, 2, 3], None), 0)
        self.assertEqual(place_of([1, 2, 3], 4), 3)
        self.assertEqual(place_of([1, 2, 3], ""), 3)

    def test_what_is_handed_in_stays(self):
        keys = [1, "a"]
        place_of(keys, 5)
        self.assertEqual(keys, [1, "a"])


class Clashes(unittest.TestCase):
    def test_base(self):
        for value in RISING:
            self.assertEqual(base_of(value), value)
            self.assertEqual(base_of((value, (1, 2))), value)

    def test_sides(self):
        for value in RISING:
            self.assertEqual(sides_of(value), [value])
        self.assertEqual(sides_of((5, (None, "a"))), [None, "a"])
        self.assertEqual(sides_of((5, (5, 6, "a"))), [5, 6, "a"])
        self.assertEqual(sides_of((None, MANY_NOWS)), list(MANY_NOWS))

    def test_sides_are_the_askers_own(self):
        for value in (7, (5, (None, "a"))):
            sides = sides_of(value)
            self.assertIsInstance(sides, list)
            copy = list(sides)
            sides.append("more")
            sides[0] = "other"
            self.assertEqual(sides_of(value), copy)

    def test_a_clash_is_made(self):
        for values in itertools.permutations([None, 3, "a", 3, "a"]):
            self.assertEqual(clash_of(5, list(values)), (5, (None, 3, "a")))
        self.assertEqual(clash_of(None, [1, None]), (None, (None, 1)))
        self.assertEqual(clash_of("a", ["b", "a"]), ("a", ("a", "b")))

    def test_a_clash_that_is_made_is_one(self):
        for was, one, other in itertools.product(RISING[::4], repeat=3):
            if one != other:
                clash = clash_of(was, [one, other, one])
                self.assertIs(is_clash(clash), True)
                self.assertEqual(base_of(clash), was)
                self.assertEqual(sides_of(clash), in_order([one, other]))

    def test_more_than_sixty_nows(self):
        self.assertEqual(clash_of(0, list(MANY_NOWS)[::-1]), (0, MANY_NOWS))

    def test_what_is_handed_in_stays_and_changes_nothing_later(self):
        values = [3, 1, 3]
        clash = clash_of(5, values)
        self.assertEqual(values, [3, 1, 3])
        values.append(2)
        self.assertEqual(clash, (5, (1, 3)))


if __name__ == "__main__":
    unittest.main()
