"""[4]: worths and their numerals."""

import unittest

from forerun.errors import NoNumber
from forerun.numerals import is_worth, numeral, worth_in

MOST = 10 ** 30

# Whole numbers with their numerals, the texts written out where a slip would hide behind str.
PAIRS = [
    (0, "0"),
    (1, "1"),
    (-1, "-1"),
    (7, "7"),
    (9, "9"),
    (10, "10"),
    (-10, "-10"),
    (101, "101"),
    (-1000, "-1000"),
    (1234567890, "1234567890"),
    (-9876543210, "-9876543210"),
    (2 ** 63, "9223372036854775808"),
    (-(2 ** 63) - 1, "-9223372036854775809"),
    (123456789012345678901234567890, "123456789012345678901234567890"),
    (-999999999999999999999999999999, "-999999999999999999999999999999"),
    (10 ** 29, "100000000000000000000000000000"),
    (MOST, "1000000000000000000000000000000"),
    (-MOST, "-1000000000000000000000000000000"),
]


class WhatIsAWorth(unittest.TestCase):
    def test_whole_numbers_within_the_range(self):
        for worth, text in PAIRS:
            with self.subTest(worth=worth):
                self.assertIs(is_worth(worth), True)

    def test_both_ends(self):
        self.assertIs(is_worth(MOST), True)
        self.assertIs(is_worth(MOST - 1), True)
        self.assertIs(is_worth(-MOST), True)
        self.assertIs(is_worth(-MOST + 1), True)

    def test_beyond_both_ends(self):
        for number in (MOST + 1, 2 * MOST, 10 ** 31, 10 ** 60, 10 ** 5000):
            with self.subTest(bits=number.bit_length()):
                self.assertIs(is_worth(number), False)
                self.assertIs(is_worth(-number), False)

    def test_things_that_are_no_whole_numbers(self):
        for thing in (True, False, None, "", "0", "1", [], [1], (), (1,), {}, {1: 1}, {1}, 1.0, b"1", int, object()):
            with self.subTest(thing=thing):
                self.assertIs(is_worth(thing), False)


class NumeralsThereAndBack(unittest.TestCase):
    def test_written(self):
        for worth, text in PAIRS:
            with self.subTest(worth=worth):
                self.assertEqual(numeral(worth), text)
                self.assertIs(type(numeral(worth)), str)

    def test_read(self):
        for worth, text in PAIRS:
            with self.subTest(text=text):
                self.assertEqual(worth_in(text), worth)
                self.assertIs(type(worth_in(text)), int)

    def test_there_and_back_for_small_worths(self):
        for worth in range(-1200, 1201):
            self.assertEqual(worth_in(numeral(worth)), worth)

    def test_there_and_back_for_each_count_of_figures(self):
        for figures in range(1, 31):
            for worth in (10 ** figures - 1, 10 ** figures, int("123456789" * 4) // 10 ** (36 - figures)):
                for signed in (worth, -worth):
                    self.assertEqual(worth_in(numeral(signed)), signed)

    def test_arguments_by_their_names(self):
        self.assertEqual((is_worth(thing=5), numeral(worth=5), worth_in(text="5")), (True, "5", 5))


class Refused(unittest.TestCase):
    def refused(self, texts):
        for text in texts:
            with self.subTest(text=text[:80]), self.assertRaises(NoNumber):
                worth_in(text)

    def test_no_figures(self):
        self.refused(["", "-", "--", "+", " ", "\n", "\t"])

    def test_nought_below_nought(self):
        self.refused(["-0", "-00", "+0"])

    def test_noughts_ahead(self):
        self.refused(["00", "000", "007", "-07", "-007", "01", "0" * 31, "0" * 30 + "7", "0" * 4000])

    def test_signs_ahead(self):
        self.refused(["+1", "+10", "--1", "-+1", "+-1", "1-", "1+", "1-1", "-1-"])

    def test_marks_amid(self):
        self.refused(["1_0", "1_000", "_1", "1_", "-_1", "1,0", "1.0", "1.", ".1", "1e3", "1'0", "0x10", "0b1", "1/2"])

    def test_blanks_tabs_and_line_feeds(self):
        for space in (" ", "\t", "\n", "\r", "  ", "\v", "\f"):
            self.refused([space + "12", "1" + space + "2", "12" + space])
            self.refused([space + "-12", "-" + space + "12", "-12" + space])
            self.refused([space + "0", "0" + space])

    def test_two_numerals_one_behind_the_other(self):
        self.refused(["1 2", "1-2", "0 0", "-1-2", "1\n2", "0-1", "-1 -1"])

    def test_beyond_both_ends(self):
        for number in (MOST + 1, MOST + 10, 2 * MOST, 10 * MOST - 1, 10 * MOST, 10 ** 60):
            self.refused([str(number), "-" + str(number)])

    def test_figures_by_the_hundred(self):
        for many in (100, 300, 4000, 4300, 4301, 5000):
            for figure in "019":
                self.refused([figure * many, "-" + figure * many])

    def test_letters(self):
        self.refused(["a", "x", "ten", "1a", "a1", "-a", "1O", "l", "O", "nan", "inf", "None", "True", "False"])

    def test_each_other_sign(self):
        for sign in map(chr, range(256)):
            if sign not in "0123456789":
                self.refused([sign, "-" + sign, "1" + sign, "1" + sign + "1", "-1" + sign])
            if sign not in "0123456789-":
                self.refused([sign + "1"])

    def test_figures_that_are_not_the_ten_signs(self):
        for figure in ("\u0663", "\uff13", "\u00b2", "\u0967", "\u2460", "\u4e09", "\U0001d7d9"):
            self.refused([figure, "-" + figure, "1" + figure, figure + "1", figure * 40])

    def test_minus_signs_that_are_not_the_one(self):
        self.refused(["\u22121", "\u20131", "~1", "/1", ":", "1:", "/"])


if __name__ == "__main__":
    unittest.main()
