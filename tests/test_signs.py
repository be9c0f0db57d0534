"""Points [15] to [17], and [2] and [3] for them: values written and read."""

import itertools
import unittest

from twigtable.errors import BadText
from twigtable.signs import Strip, read_value, shown

BOUND = 10**30
SIGNS = "".join(chr(number) for number in range(32, 127) if number != 37)
NO_SIGNS = ["%", "\n", "\t", "\r", "\0", "\x7f", "\xe9", "\u0663", "\u2028", "\U0001f600"]
# Values and how each one is written.
WRITTEN = [
    (None, "~"),
    (0, "0"),
    (7, "7"),
    (-7, "-7"),
    (10, "10"),
    (-1203, "-1203"),
    (BOUND - 1, "9" * 30),
    (1 - BOUND, "-" + "9" * 30),
    (10**29, "1" + "0" * 29),
    ("", "t0:"),
    ("hello", "t5:hello"),
    ("a b", "t3:a b"),
    (" ", "t1: "),
    ("~", "t1:~"),
    ("5", "t1:5"),
    ("-0", "t2:-0"),
    ("t1:a", "t4:t1:a"),
    ("c2 1 2 3", "t8:c2 1 2 3"),
    ("x" * 9, "t9:" + "x" * 9),
    ("x" * 10, "t10:" + "x" * 10),
    ("x" * 40, "t40:" + "x" * 40),
    (SIGNS[:40], "t40:" + SIGNS[:40]),
    (SIGNS[-40:], "t40:" + SIGNS[-40:]),
    ((5, (None, "a")), "c2 5 ~ t1:a"),
    ((None, (None, 0)), "c2 ~ ~ 0"),
    ((5, (5, 6)), "c2 5 5 6"),
    (("", ("", " ")), "c2 t0: t0: t1: "),
    (("a b", (-12, 3, "a b", "c d")), "c4 t3:a b -12 3 t3:a b t3:c d"),
    ((1 - BOUND, (1 - BOUND, BOUND - 1)), "c2 -" + "9" * 30 + " -" + "9" * 30 + " " + "9" * 30),
    ((0, tuple(range(61))), "c61 0 " + " ".join(str(number) for number in range(61))),
    ((0, tuple(range(600))), "c600 0 " + " ".join(str(number) for number in range(600))),
]
NOT_WHOLE = ["", "a", "-1", "+1", " 1", "~", "00", "01", "0" * 30, "1" * 31, "9" * 31, "1" * 500, "\u0663", "\xb2"]
# What writes no plain value, and doesn't begin with one.
NOT_PLAIN = [
    "", " ", " ~", "-", "--1", "-~", "-a", "- 1", "-0", "-00", "-01", "-" + "1" * 31, "+1", "01", "00", "1" * 31,
    "T1:a", "t", "t:", "t:a", "t1", "t1a", "t1 a", "t 1:a", "t-1:a", "t1:", "t2:a", "t5:hell", "t01:a", "t00:",
    "t40:" + "x" * 39, "t41:" + "x" * 41, "t41:" + "x" * 40, "t41:", "t" + "1" * 31 + ":a", "t" + "9" * 30 + ":a",
    "x", "\n", "\t", "\n~", "%", "\u0663", "-\u0663", "t\u0661:a",
] + ["t3:a" + sign + "b" for sign in NO_SIGNS] + ["t1:" + sign for sign in NO_SIGNS]
# What writes no clash, but begins as one.
NOT_CLASH = [
    "c", "c2", "c2 ", "c 2 1 2 3", "c2 1", "c2 1 ", "c2 1 2", "c2 1 2 ", "c21 2 3", "c2  1 2 3", "c2 1  2 3",
    "c2 1 2  3", "c2\n1 2 3", "c2 1\n2 3", "c2 1 2\n3", "c2 1 2\t3", "c2 1 2,3", "c2 1 23", "c02 1 2 3", "c-2 1 2 3",
    "c0 1", "c0 1 2 3", "c0", "c1 1", "c1 1 2", "c1 1 2 3", "c2 1 2 2", "c2 1 3 2", "c2 1 2 ~", "c2 1 t1:a 2",
    "c2 1 t1:b t1:a", "c2 1 t1:a t1:a", "c2 1 ~ ~", "c3 1 2 3", "c3 1 2 3 3", "c3 1 2 4 3", "c3 1 3 2 4", "c2 01 2 3",
    "c2 1 02 3", "c2 1 2 03", "c2 1 -0 3", "c2 t1: 2 3", "c2 1 t9:a 3", "c2 1 2 t41:" + "x" * 41, "c2 % 2 3",
    "c2 1 2 t1:%", "c2 c2 1 2 3 4 5", "c2 1 c2 1 2 3 4", "c" + "1" * 31 + " 1 2 3", "c" + "9" * 30 + " 1 2 3",
    "C2 1 2 3", "c~ 1 2 3", "c2 1 2 x",
]
# What may stand behind something that is taken, and is no part of it.
BEHIND = ["", " ", "  5", "\n", "\t", "~", "%", "\xe9", ":", "-", "-1"]


class Shown(unittest.TestCase):
    def test_each_is_written(self):
        for value, text in WRITTEN:
            with self.subTest(text):
                self.assertEqual(shown(value), text)


class Read(unittest.TestCase):
    def test_each_is_read(self):
        for value, text in WRITTEN:
            with self.subTest(text):
                self.assertEqual(read_value(text), value)

    def test_kinds_of_what_is_read(self):
        self.assertIs(read_value("~"), None)
        self.assertIs(type(read_value("1")), int)
        self.assertIs(type(read_value("t1:1")), str)
        clash = read_value("c2 5 ~ t1:a")
        self.assertIs(type(clash), tuple)
        self.assertIs(type(clash[1]), tuple)

    def test_what_writes_no_value_is_refused(self):
        for text in NOT_PLAIN + NOT_CLASH:
            with self.subTest(text), self.assertRaises(BadText):
                read_value(text)

    def test_more_behind_a_value_is_refused(self):
        for value, text in WRITTEN:
            for more in (" ", "\n", "\t", "~", "%", " 5", "a", "-", " ~"):
                with self.subTest(text, more=more), self.assertRaises(BadText):
                    read_value(text + more)

    def test_more_ahead_of_a_value_is_refused(self):
        for value, text in WRITTEN:
            for more in (" ", "\n", "~", "0", "+"):
                with self.subTest(text, more=more), self.assertRaises(BadText):
                    read_value(more + text)

    def test_a_part_of_a_text_or_a_clash_is_refused(self):
        for text in ("t5:hello", "t12:" + "x" * 12, "t40:" + " " * 40, "c2 5 ~ t1:a", "c3 ~ t0: t1:a t2:bc"):
            for end in range(len(text)):
                with self.subTest(text[:end]), self.assertRaises(BadText):
                    read_value(text[:end])

    def test_of_all_short_texts_just_what_is_written_is_read(self):
        plains = [None, ""] + list(range(100)) + [-number for number in range(1, 100)]
        plains += ["".join(signs) for count in (1, 2) for signs in itertools.product("~012-t: c", repeat=count)]
        written = {shown(plain): plain for plain in plains}
        for count in range(6):
            for signs in itertools.product("~012-t: c", repeat=count):
                text = "".join(signs)
                try:
                    value = read_value(text)
                except BadText:
                    self.assertNotIn(text, written)
                else:
                    self.assertEqual(shown(value), text)

    def test_every_clash_of_a_few_values(self):
        plains = [None, -1, 0, 12, "", "a", "a "]
        for was in plains:
            for one, other in itertools.product(range(len(plains)), repeat=2):
                text = " ".join(["c2", shown(was), shown(plains[one]), shown(plains[other])])
                with self.subTest(text):
                    if one < other:
                        clash = (was, (plains[one], plains[other]))
                        self.assertEqual(read_value(text), clash)
                        self.assertEqual(shown(clash), text)
                    else:
                        self.assertRaises(BadText, read_value, text)


class Taking(unittest.TestCase):
    def taken(self, step, text, value, told=()):
        """The step takes just the text, wherever it stands, and gives the value."""
        for ahead in ("", "\n\xe9%"):
            strip = Strip(ahead + text)
            for sign in ahead:
                strip.take_sign(sign)
            with self.subTest(step, text=text, ahead=ahead):
                got = getattr(strip, step)(*told)
                self.assertEqual(got, value)
                self.assertIs(type(got), type(value))
                self.assertEqual(strip.at, len(ahead) + len(text))
                self.assertIs(strip.is_over(), True)

    def taken_ahead_of(self, step, text, value, behind, told=()):
        strip = Strip(text + behind)
        with self.subTest(step, text=text, behind=behind):
            self.assertEqual(getattr(strip, step)(*told), value)
            self.assertEqual(strip.at, len(text))
            self.assertIs(strip.is_over(), behind == "")

    def refused(self, step, text, told=()):
        """The step is refused, at stays, and another step goes on from there."""
        for ahead in ("", "\n\xe9%"):
            strip = Strip(ahead + text)
            for sign in ahead:
                strip.take_sign(sign)
            with self.subTest(step, text=text, ahead=ahead):
                for turn in range(2):
                    self.assertRaises(BadText, getattr(strip, step), *told)
                    self.assertEqual(strip.at, len(ahead))
                for place, sign in enumerate(text):
                    self.assertEqual(strip.at, len(ahead) + place)
                    self.assertIs(strip.is_over(), False)
                    strip.take_sign(sign)
                self.assertIs(strip.is_over(), True)


class Steps(Taking):
    def test_at_first(self):
        for text in ("", "a", "12 t1:a"):
            strip = Strip(text)
            self.assertEqual(strip.at, 0)
            self.assertIs(strip.is_over(), text == "")

    def test_whole(self):
        for number in (0, 1, 9, 10, 100, 1203, 10**29, BOUND - 1):
            self.taken("take_whole", str(number), number)
            for behind in BEHIND + ["a", "t1:a"]:
                self.taken_ahead_of("take_whole", str(number), number, behind)
        for text in NOT_WHOLE:
            self.refused("take_whole", text)

    def test_whole_takes_figures_from_0_to_9_alone(self):
        self.taken_ahead_of("take_whole", "12", 12, "\u0663")
        self.taken_ahead_of("take_whole", "0", 0, "\xb2")
        self.taken_ahead_of("take_whole", "9", 9, ":")
        self.taken_ahead_of("take_whole", "9", 9, "/")

    def test_plain(self):
        for value, text in WRITTEN:
            if text[0] == "c":
                self.refused("take_plain", text)
            else:
                self.taken("take_plain", text, value)
                for behind in BEHIND:
                    self.taken_ahead_of("take_plain", text, value, behind)
        for text in NOT_PLAIN + NOT_CLASH:
            self.refused("take_plain", text)

    def test_plain_takes_no_more_than_it_is_called_for(self):
        self.taken_ahead_of("take_plain", "12", 12, " t1:a")
        self.taken_ahead_of("take_plain", "~", None, "~")
        self.taken_ahead_of("take_plain", "~", None, "5")
        self.taken_ahead_of("take_plain", "t1:a", "a", "b")
        self.taken_ahead_of("take_plain", "t0:", "", "%")
        self.taken_ahead_of("take_plain", "t0:", "", "ab")
        self.taken_ahead_of("take_plain", "t40:" + "x" * 40, "x" * 40, "x")
        self.taken_ahead_of("take_plain", "-1", -1, "-0")

    def test_value(self):
        for value, text in WRITTEN:
            self.taken("take_value", text, value)
            for behind in BEHIND:
                self.taken_ahead_of("take_value", text, value, behind)
        for text in NOT_PLAIN + NOT_CLASH:
            self.refused("take_value", text)

    def test_value_takes_as_many_nows_as_the_number_says(self):
        self.taken_ahead_of("take_value", "c2 1 2 3", (1, (2, 3)), " 4")
        self.taken_ahead_of("take_value", "c3 1 2 3 4", (1, (2, 3, 4)), " ~")

    def test_key(self):
        for value, text in WRITTEN:
            if text[0] == "c" or value in (None, ""):
                self.refused("take_key", text)
            else:
                self.taken("take_key", text, value)
                for behind in BEHIND:
                    self.taken_ahead_of("take_key", text, value, behind)
        for text in NOT_PLAIN + NOT_CLASH + ["~", "t0:", "t0:a", "~5"]:
            self.refused("take_key", text)

    def test_word(self):
        for word in ("a", "z", "main", "abcdefghijkl", "mnopqrstuvwx"):
            self.taken("take_word", word, word)
            for behind in BEHIND + ["A", "1", "{", "`", "_"]:
                self.taken_ahead_of("take_word", word, word, behind)
        for text in ("", "abcdefghijklm", "a" * 500, "A", "Aa", "1a", " a", "-", "~", "\xe9", "\n", "{", "`", "a" * 13 + " "):
            self.refused("take_word", text)

    def test_one_sign(self):
        for sign in list(SIGNS) + NO_SIGNS:
            self.taken("take_sign", sign, None, (sign,))
            for behind in BEHIND + [sign]:
                self.taken_ahead_of("take_sign", sign, None, behind, (sign,))
            self.refused("take_sign", "", (sign,))
            self.refused("take_sign", "b" + sign if sign != "b" else "ab", (sign,))
        self.refused("take_sign", "A", ("a",))
        self.refused("take_sign", "\n", ("\r",))

    def test_line_end(self):
        self.taken("take_line_end", "\n", None)
        for behind in BEHIND:
            self.taken_ahead_of("take_line_end", "\n", None, behind)
        for text in ("", "a", " ", " \n", "\r", "\r\n", "\t", "\\n", "\x0b", "\x0c", "\x85", "\u2028"):
            self.refused("take_line_end", text)


class Strips(unittest.TestCase):
    def test_steps_one_behind_another(self):
        strip = Strip("put t3:a b main\tc2 5 ~ t1:a\n-12%")
        self.assertEqual(strip.take_word(), "put")
        self.assertIsNone(strip.take_sign(" "))
        self.assertEqual(strip.take_key(), "a b")
        self.assertEqual(strip.at, 10)
        self.assertRaises(BadText, strip.take_word)
        self.assertIsNone(strip.take_sign(" "))
        self.assertEqual(strip.take_word(), "main")
        self.assertRaises(BadText, strip.take_line_end)
        self.assertIsNone(strip.take_sign("\t"))
        self.assertRaises(BadText, strip.take_key)
        self.assertEqual(strip.take_value(), (5, (None, "a")))
        self.assertRaises(BadText, strip.take_value)
        self.assertIsNone(strip.take_line_end())
        self.assertRaises(BadText, strip.take_whole)
        self.assertEqual(strip.take_plain(), -12)
        self.assertIs(strip.is_over(), False)
        self.assertIsNone(strip.take_sign("%"))
        self.assertIs(strip.is_over(), True)

    def test_another_step_is_tried_behind_a_refused_one(self):
        strip = Strip("c2 1 3 2")
        self.assertRaises(BadText, strip.take_value)
        self.assertRaises(BadText, strip.take_plain)
        self.assertEqual(strip.take_word(), "c")
        self.assertEqual(strip.take_whole(), 2)
        strip = Strip("~")
        self.assertRaises(BadText, strip.take_key)
        self.assertIsNone(strip.take_plain())
        strip = Strip("-0")
        self.assertRaises(BadText, strip.take_plain)
        strip.take_sign("-")
        self.assertEqual(strip.take_whole(), 0)
        strip = Strip("t5:hell")
        self.assertRaises(BadText, strip.take_key)
        self.assertEqual(strip.take_word(), "t")
        self.assertEqual(strip.take_whole(), 5)

    def test_every_step_is_refused_at_the_end(self):
        strip = Strip("7")
        self.assertEqual(strip.take_value(), 7)
        for step in ("take_whole", "take_plain", "take_value", "take_key", "take_word", "take_line_end"):
            self.assertRaises(BadText, getattr(strip, step))
        self.assertRaises(BadText, strip.take_sign, "7")
        self.assertEqual(strip.at, 1)

    def test_two_strips_have_nothing_to_do_with_one_another(self):
        one = Strip("12 a")
        other = Strip("12 a")
        self.assertEqual(one.take_whole(), 12)
        self.assertEqual((one.at, other.at), (2, 0))
        self.assertEqual(other.take_whole(), 12)

    def test_a_long_text(self):
        strip = Strip("5 " * 100000)
        while not strip.is_over():
            self.assertEqual(strip.take_key(), 5)
            strip.take_sign(" ")
        self.assertEqual(strip.at, 200000)


if __name__ == "__main__":
    unittest.main()
