"""Whole numbers, NAMES, DAYS, numbers in words, rows of texts."""

import unittest

from pathbook.errors import BadDay, BadName
from pathbook.words import is_name, is_whole, need_day, need_name, number_in, rows_of
from tests.samples import ANYTHING, NO_KEYS

GOOD_NAMES = ("a", "z", "ab", "zz", "abcdefgh", "zzzzzzzz", "ride", "book", "section")
BAD_NAMES = (
    "", "abcdefghi", "a" * 12000, "A", "aB", "Ab", "0", "a1", "1a", " ", " a", "a ", "a b", "\n", "a\n", "\na",
    "a\t", "`", "{", "@", "[", "a.b", "a-b", "a_b", "a'b", "a/b", "1" * 5000,
)
# Small letters to Python, but none of a to z.
OTHER_LETTERS = ("\u00e9", "\u00df", "a\u00e4", "\u0430", "\u00aa")


class WholeNumbers(unittest.TestCase):
    def test_bounds_left_out(self):
        for number in (0, 1, 42, 9998, 9999):
            self.assertIs(is_whole(number), True)
        for number in (-1, 10000, -9999, 10 ** 5000, -10 ** 5000):
            self.assertIs(is_whole(number), False)

    def test_bounds_by_places(self):
        for number, wanted in ((0, False), (1, True), (999, True), (1000, False), (-1, False)):
            self.assertIs(is_whole(number, 1, 999), wanted)
        self.assertIs(is_whole(4, 5), False)
        self.assertIs(is_whole(5, 5), True)
        self.assertIs(is_whole(9999, 5), True)
        self.assertIs(is_whole(10000, 5), False)

    def test_bounds_by_names(self):
        self.assertIs(is_whole(thing=3, least=3, most=3), True)
        self.assertIs(is_whole(thing=4, most=3), False)
        self.assertIs(is_whole(0, most=0), True)
        self.assertIs(is_whole(-1, most=5), False)
        self.assertIs(is_whole(99999, most=99999), True)
        self.assertIs(is_whole(100000, most=99999), False)
        self.assertIs(is_whole(9999, least=9999), True)
        self.assertIs(is_whole(10000, least=9999), False)
        self.assertIs(is_whole(most=9, least=1, thing=10), False)
        self.assertIs(is_whole(-2, least=-2, most=-1), True)
        self.assertIs(is_whole(-3, least=-2, most=-1), False)

    def test_no_number_between_bounds_that_cross(self):
        for number in range(0, 9):
            self.assertIs(is_whole(number, 5, 4), False)

    def test_true_and_false_are_none(self):
        for thing in (True, False):
            self.assertIs(is_whole(thing), False)
            self.assertIs(is_whole(thing, 0, 1), False)
            self.assertIs(is_whole(thing, least=-5, most=5), False)

    def test_of_anything(self):
        for thing in ANYTHING + NO_KEYS + ("5", "0", b"5", (5,), [5], {5: 5}):
            self.assertIs(is_whole(thing), False)
            if not isinstance(thing, int):
                self.assertIs(is_whole(thing, -10 ** 9, 10 ** 9), False)


class Names(unittest.TestCase):
    def test_good_ones(self):
        for thing in GOOD_NAMES:
            self.assertIs(is_name(thing), True)
            self.assertIsNone(need_name(thing))

    def test_each_letter(self):
        for sign in "abcdefghijklmnopqrstuvwxyz":
            self.assertIs(is_name(sign), True)
            self.assertIs(is_name(sign.upper()), False)

    def test_no_other_sign(self):
        for code in list(range(0, 97)) + list(range(123, 300)):
            self.assertIs(is_name(chr(code)), False)
            self.assertIs(is_name("a" + chr(code)), False)
            self.assertIs(is_name(chr(code) + "a"), False)

    def test_each_length(self):
        for many in range(0, 20):
            self.assertIs(is_name("q" * many), 1 <= many <= 8)

    def test_bad_ones(self):
        for thing in BAD_NAMES + OTHER_LETTERS + ANYTHING + NO_KEYS:
            self.assertIs(is_name(thing), False)
            with self.assertRaises(BadName):
                need_name(thing)

    def test_things_that_hold_names(self):
        for thing in (b"abc", ("a", "b"), ["a"], {"a": "b"}, {"a"}, ("a",), 5):
            self.assertIs(is_name(thing=thing), False)
            with self.assertRaises(BadName):
                need_name(thing=thing)

    def test_by_name(self):
        self.assertIs(is_name(thing="a"), True)
        self.assertIsNone(need_name(thing="a"))


class Days(unittest.TestCase):
    def test_good_ones(self):
        for thing in (0, 1, 500, 9998, 9999):
            self.assertIsNone(need_day(thing))
            self.assertIsNone(need_day(thing=thing))

    def test_bad_ones(self):
        for thing in (-1, 10000, 10 ** 5000, -10 ** 5000, "5", "0", b"5", (5,), [5]) + ANYTHING + NO_KEYS:
            with self.assertRaises(BadDay):
                need_day(thing)


class Numbers(unittest.TestCase):
    def told(self, word, most, wanted):
        found = number_in(word, most)
        self.assertEqual(found, wanted, (word[:20], most))
        if wanted is not None:
            self.assertIs(type(found), int)

    def test_every_number_of_a_day(self):
        for number in range(0, 10000):
            self.assertEqual(number_in(str(number)), number)
        for number in (10000, 10001, 99999, 100000):
            self.assertIsNone(number_in(str(number)))

    def test_most_at_each_length(self):
        for most in (0, 1, 7, 9, 10, 60, 99, 100, 999, 1000, 9999, 10000, 99998, 99999):
            self.told(str(most), most, most)
            self.told(str(most + 1), most, None)
            self.told("0", most, 0)

    def test_most_by_name(self):
        self.assertEqual(number_in(word="99999", most=99999), 99999)
        self.assertIsNone(number_in(word="100000", most=99999))
        self.assertEqual(number_in("7", most=7), 7)
        self.assertIsNone(number_in("8", most=7))
        self.assertEqual(number_in(word="9999"), 9999)
        self.assertIsNone(number_in(word="10000"))

    def test_a_nought_ahead(self):
        for word in ("00", "01", "007", "0000", "00000", "09999", "010", "000001"):
            self.told(word, 99999, None)
        for most in (9999, 99999):
            self.told("0" * 5000, most, None)
            self.told("0" * 5000 + "7", most, None)

    def test_no_figures(self):
        for word in (
            "", " ", "\n", "-0", "+0", "-1", "+1", " 1", "1 ", "1\n", "\n1", "1 2", "1_0", "1.0", "1.", ".1", "1e3",
            "0x1", "0b1", "a", "1a", "a1", "one", "1,0", "--1", "/", ":", "\u0661", "\u00b2", "1\u00b2", "\uff11",
        ):
            self.told(word, 9999, None)
            self.told(word, 99999, None)

    def test_thousands_of_figures(self):
        for many in (6, 100, 4299, 4300, 4301, 5000, 12000):
            for figure in "19":
                self.told(figure * many, 99999, None)
                self.assertIsNone(number_in(figure * many))
            self.told("1" + "0" * (many - 1), 99999, None)


class Rows(unittest.TestCase):
    def test_ordinary(self):
        self.assertEqual(rows_of("north a 12 3 4 b"), [["north", "a", "12", "3", "4", "b"]])
        self.assertEqual(rows_of(text="a b\nc"), [["a", "b"], ["c"]])
        self.assertEqual(rows_of("a / b/c\n/"), [["a", "/", "b/c"], ["/"]])

    def test_without_words(self):
        self.assertEqual(rows_of(""), [[]])
        self.assertEqual(rows_of(" "), [[]])
        self.assertEqual(rows_of(" " * 12000), [[]])
        self.assertEqual(rows_of("\n"), [[], []])
        self.assertEqual(rows_of("  \n \n"), [[], [], []])

    def test_many_blanks(self):
        self.assertEqual(rows_of("  a   b  "), [["a", "b"]])
        self.assertEqual(rows_of("a" + " " * 5000 + "b"), [["a", "b"]])
        self.assertEqual(rows_of(" a \n  b  c \n d "), [["a"], ["b", "c"], ["d"]])

    def test_line_ends_in_a_row(self):
        self.assertEqual(rows_of("a\n\n\nb"), [["a"], [], [], ["b"]])
        self.assertEqual(rows_of("\na\n"), [[], ["a"], []])
        self.assertEqual(rows_of("\n" * 12000), [[] for k in range(12001)])

    def test_thousands_of_words(self):
        self.assertEqual(rows_of("a " * 6000), [["a"] * 6000])
        self.assertEqual(rows_of("b\n" * 6000), [["b"]] * 6000 + [[]])
        self.assertEqual(rows_of("1" * 12000), [["1" * 12000]])

    def test_every_sign_but_the_blank_stands_in_words(self):
        signs = "".join(chr(code) for code in range(33, 127) if chr(code) != "%")
        self.assertEqual(rows_of(f" {signs}\n{signs} "), [[signs], [signs]])

    def test_what_is_told_is_the_askers_own(self):
        text = "a b\n\nc"
        first = rows_of(text)
        first[0].append("d")
        first[1].append("e")
        first.pop()
        self.assertEqual(rows_of(text), [["a", "b"], [], ["c"]])
        rows = rows_of("\n\n")
        rows[0].append("a")
        self.assertEqual(rows, [["a"], [], []])


if __name__ == "__main__":
    unittest.main()
