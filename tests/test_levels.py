"""Point [21]: the mixed number and the level of a key."""

import unittest

from twigtable.levels import level_of, mixed

PRIME = 2147483647


def number_that_mixes_from(first):
    """The least whole number from 0 on for which m of [21] is the one told."""
    return (first - 11) * pow(48271, -1, PRIME) % PRIME


def first_of(mixed_number):
    """The m of [21] that the mixed number comes from, for m ^ (m >> 15) can be undone."""
    return mixed_number ^ (mixed_number >> 15) ^ (mixed_number >> 30)


class Mixed(unittest.TestCase):
    def test_numbers_by_hand(self):
        self.assertEqual(mixed(0), 11)
        # 1 * 48271 + 11 is 48282, and 48282 >> 15 is 1.
        self.assertEqual(mixed(1), 48283)
        self.assertEqual(mixed(2), 96553 ^ 2)

    def test_numbers_below_nought(self):
        # -48260 is 2147435387 above a whole count of the modulus.
        self.assertEqual(mixed(-1), 2147435387 ^ (2147435387 >> 15))
        for number in (-1, -2, -77, -PRIME, 1 - 10**30):
            self.assertEqual(mixed(number), mixed(number % PRIME))
            self.assertGreaterEqual(mixed(number), 0)

    def test_great_numbers(self):
        for number in (10**30 - 1, 10**29, 123456789012345678901234567890):
            self.assertEqual(mixed(number), mixed(number % PRIME))

    def test_texts_by_hand(self):
        # 7 * 131 + 97 is 1014.
        self.assertEqual(mixed("a"), 1014)
        # 1014 * 131 + 98 is 132932, and 132932 >> 15 is 4.
        self.assertEqual(mixed("ab"), 132932 ^ 4)
        self.assertEqual(mixed(" "), 949)
        self.assertEqual(mixed("~"), 1043)

    def test_the_order_of_signs_counts(self):
        self.assertNotEqual(mixed("ab"), mixed("ba"))

    def test_long_texts(self):
        first = 7
        for sign in "hello, world ~ 0123456789 " + "z" * 14:
            first = (first * 131 + ord(sign)) % PRIME
        self.assertEqual(mixed("hello, world ~ 0123456789 " + "z" * 14), first ^ (first >> 15))

    def test_a_text_of_figures_is_no_number(self):
        self.assertEqual(mixed("1"), 7 * 131 + 49)
        self.assertNotEqual(mixed("1"), mixed(1))

    def test_they_stay_below_two_to_the_31(self):
        for key in list(range(-50, 50)) + ["x" * count for count in range(1, 41)]:
            self.assertIn(mixed(key), range(2**31))


class Levels(unittest.TestCase):
    def test_of_keys_by_hand(self):
        # The mixed numbers are 11, 48283, 1014 and 132928, which is 4 ** 3 * 2077.
        for key, level in ((0, 0), (1, 0), ("a", 0), ("ab", 3)):
            with self.subTest(key):
                self.assertEqual(level_of(key), level)

    def test_mixed_number_nought(self):
        key = number_that_mixes_from(0)
        for number in (key, key - PRIME, key + PRIME):
            self.assertEqual(mixed(number), 0)
            self.assertEqual(level_of(number), 6)

    def test_each_level_at_its_edges(self):
        # Of a number 4 ** level * odd, and of one with 2 for the two bits above, no more is shifted out.
        for level in range(7):
            for factor in (1, 2, 3, 5, 6, 7, 1001, 4094):
                with self.subTest(level=level, factor=factor):
                    key = number_that_mixes_from(first_of(4**level * factor))
                    self.assertEqual(mixed(key), 4**level * factor)
                    self.assertEqual(level_of(key), level)
                    self.assertEqual(level_of(key - PRIME), level)

    def test_six_times_at_most(self):
        for power in range(6, 15):
            key = number_that_mixes_from(first_of(4**power))
            self.assertEqual(mixed(key), 4**power)
            self.assertEqual(level_of(key), 6)

    def test_of_many_keys(self):
        for key in list(range(-3000, 3000)) + [str(number) for number in range(3000)]:
            level = level_of(key)
            self.assertEqual(mixed(key) % 4**level, 0)
            self.assertTrue(level == 6 or mixed(key) % 4**(level + 1) != 0)


if __name__ == "__main__":
    unittest.main()
