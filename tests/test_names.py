"""[5]: names."""

import string
import unittest

from forerun.terms import is_name

SIXTEEN = "take give let say off if else end as plus minus times over rest under same".split()


class Names(unittest.TestCase):
    def names(self, texts):
        for text in texts:
            with self.subTest(text=text):
                self.assertIs(is_name(text), True)

    def no_names(self, texts):
        for text in texts:
            with self.subTest(text=text):
                self.assertIs(is_name(text), False)

    def test_each_letter_by_itself(self):
        self.names(string.ascii_lowercase)

    def test_each_letter_at_each_place(self):
        for letter in string.ascii_lowercase:
            self.names(["q" * at + letter + "q" * (5 - at) for at in range(6)])

    def test_one_to_six_letters(self):
        self.names(["x", "xy", "abc", "gold", "apple", "silver", "zzzzzz", "aaaaaa"])

    def test_no_letters(self):
        self.no_names([""])

    def test_seven_letters_and_more(self):
        self.no_names(["silvers", "aaaaaaa", "abcdefgh", "x" * 100, "x" * 4000])

    def test_each_of_the_sixteen_words(self):
        self.assertEqual(len(SIXTEEN), 16)
        self.no_names(SIXTEEN)

    def test_such_a_word_with_a_letter_more(self):
        for word in SIXTEEN:
            self.names([word + "x", "x" + word, word[:1] + "x" + word[1:]])

    def test_such_a_word_with_a_letter_less(self):
        for word in SIXTEEN:
            self.names([word[:at] + word[at + 1:] for at in range(len(word))])

    def test_such_a_word_with_a_letter_changed(self):
        for word in SIXTEEN:
            self.names([word[:at] + "q" + word[at + 1:] for at in range(len(word))])

    def test_words_that_hold_several(self):
        self.names(["asas", "ifif", "endif", "elseif", "takes", "offas", "letlet"])

    def test_great_letters(self):
        self.no_names(["X", "Gold", "gOld", "golD", "GOLD", "Take", "PLUS"] + list(string.ascii_uppercase))

    def test_other_signs_at_each_place(self):
        others = string.digits + string.ascii_uppercase + string.punctuation + " \t\n\r\v\f\0"
        for sign in others:
            self.no_names([sign] + ["abcd"[:at] + sign + "abcd"[at:] for at in range(5)])

    def test_the_neighbours_of_a_and_z(self):
        self.no_names(["`", "{", "a`", "z{"])

    def test_letters_of_other_scripts(self):
        for letter in ("\u00e4", "\u00df", "\u03b1", "\u0430", "\uff41", "\u0131", "\u00aa"):
            self.no_names([letter, "a" + letter, letter + "a"])

    def test_numerals(self):
        self.no_names(["0", "7", "-1", "10", "007", "x1", "1x", "x2y"])

    def test_argument_by_its_name(self):
        self.assertIs(is_name(text="x"), True)


if __name__ == "__main__":
    unittest.main()
