"""[6], and [2] as far as it speaks of them: terms read and written."""

import unittest

from forerun.errors import NoTerm
from forerun.terms import term_from, words_of

SEVEN = ["plus", "minus", "times", "over", "rest", "under", "same"]
MOST = 10 ** 30

# Terms as written, and as told.
TERMS = [
    ("x", ("x",)),
    ("silver", ("silver",)),
    ("0", (0,)),
    ("-7", (-7,)),
    ("1" + "0" * 30, (MOST,)),
    ("-1" + "0" * 30, (-MOST,)),
    ("plus x y", ("x", "y", "plus")),
    ("minus 1 2", (1, 2, "minus")),
    ("times -1 x", (-1, "x", "times")),
    ("over x 0", ("x", 0, "over")),
    ("rest 0 x", (0, "x", "rest")),
    ("under x x", ("x", "x", "under")),
    ("same y 3", ("y", 3, "same")),
    ("plus x times 2 y", ("x", 2, "y", "times", "plus")),
    ("plus times 2 y x", (2, "y", "times", "x", "plus")),
    ("minus minus a b minus c d", ("a", "b", "minus", "c", "d", "minus", "minus")),
    ("over a rest b under c same d e", ("a", "b", "c", "d", "e", "same", "under", "rest", "over")),
    ("over rest under same a b c d e", ("a", "b", "same", "c", "under", "d", "rest", "e", "over")),
    ("plus times a b over minus c d 5", ("a", "b", "times", "c", "d", "minus", 5, "over", "plus")),
]


def told(words, at=0):
    """An own reading, part within part, to hold the program's against."""
    word = words[at]
    if word not in SEVEN:
        return ((int(word) if word.strip("-").isdigit() else word,), at + 1)
    first, amid = told(words, at + 1)
    second, behind = told(words, amid)
    return (first + second + (word,), behind)


def shapes(joints):
    """The words of all terms of so many joining words; the words differ from place to place."""
    if joints == 0:
        return [["x"]]
    found = []
    for ahead in range(joints):
        for first in shapes(ahead):
            for second in shapes(joints - 1 - ahead):
                found.append(["plus"] + first + second)
    return found


def varied(words):
    leaves = ["a", "2", "bc", "-3", "d", "0"]
    return [SEVEN[at % 7] if word in SEVEN else leaves[at % 6] for at, word in enumerate(words)]


def leaning_left(joints):
    return ["plus"] * joints + ["x"] * (joints + 1)


def leaning_right(joints):
    return ["minus", "y"] * joints + ["1"]


class Reading(unittest.TestCase):
    def test_terms_alone(self):
        for text, term in TERMS:
            words = text.split(" ")
            with self.subTest(text=text):
                self.assertEqual(term_from(words, 0), (term, len(words)))

    def test_kinds_told(self):
        term, behind = term_from(["plus", "1", "x"], 0)
        self.assertEqual([type(term), type(behind)], [tuple, int])
        self.assertEqual([type(part) for part in term], [int, str, str])
        self.assertIs(type(term_from(["x"], 0)), tuple)

    def test_words_behind_are_not_looked_at(self):
        for text, term in TERMS:
            words = text.split(" ")
            for tail in (["x"], ["as", "y"], ["plus"], [""], ["-0"], ["a b"], ["7", "8"], ["x"] * 200, ["9" * 4000]):
                self.assertEqual(term_from(words + tail, 0), (term, len(words)))

    def test_from_a_later_place(self):
        for text, term in TERMS:
            words = text.split(" ")
            for head in (["x"], ["take", "gold"], ["plus"], ["", "-0", "a b"], ["7"] * 200):
                at = len(head)
                self.assertEqual(term_from(head + words, at), (term, at + len(words)))
                self.assertEqual(term_from(head + words + ["as", "x"], at), (term, at + len(words)))

    def test_one_behind_the_other(self):
        words = "give gold plus 1 2 times x y".split(" ")
        first, amid = term_from(words, 2)
        second, behind = term_from(words, amid)
        self.assertEqual((first, amid), ((1, 2, "plus"), 5))
        self.assertEqual((second, behind), (("x", "y", "times"), 8))

    def test_from_each_place_of_a_term_its_part(self):
        words = "plus x times 2 y".split(" ")
        self.assertEqual(term_from(words, 1), (("x",), 2))
        self.assertEqual(term_from(words, 2), ((2, "y", "times"), 5))
        self.assertEqual(term_from(words, 3), ((2,), 4))
        self.assertEqual(term_from(words, 4), (("y",), 5))

    def test_all_shapes_of_up_to_six_joining_words(self):
        for joints in range(7):
            for shape in shapes(joints):
                words = varied(shape)
                self.assertEqual(term_from(words, 0), told(words))
                self.assertEqual(words_of(told(words)[0]), words)

    def test_the_list_stays(self):
        words = "say plus x times 2 y z".split(" ")
        before = list(words)
        term_from(words, 1)
        self.assertEqual(words, before)

    def test_the_list_stays_where_it_is_refused(self):
        words = ["plus", "x", "times", "2", "-0"]
        before = list(words)
        with self.assertRaises(NoTerm):
            term_from(words, 0)
        self.assertEqual(words, before)

    def test_what_becomes_of_the_list_changes_nothing(self):
        words = ["plus", "x", "y"]
        answer = term_from(words, 0)
        words[0] = "minus"
        words.clear()
        self.assertEqual(answer, (("x", "y", "plus"), 3))

    def test_arguments_by_their_names(self):
        self.assertEqual(term_from(words=["x"], at=0), (("x",), 1))


class SixtyWords(unittest.TestCase):
    def test_up_to_fifty_nine_are_read(self):
        for joints in range(30):
            for words in (leaning_left(joints), leaning_right(joints)):
                with self.subTest(words=len(words)):
                    self.assertEqual(term_from(words, 0), told(words))

    def test_fifty_nine_with_words_around(self):
        for words in (leaning_left(29), leaning_right(29)):
            self.assertEqual(len(words), 59)
            term = told(words)[0]
            self.assertEqual(term_from(["take"] * 100 + words + ["plus"] * 100, 100), (term, 159))
            self.assertEqual(term_from(words + ["x"], 0), (term, 59))
            self.assertEqual(term_from(words + ["x", "y"], 0), (term, 59))

    def test_sixty_one_and_more_are_refused(self):
        for joints in (30, 31, 40, 60, 99, 149):
            for words in (leaning_left(joints), leaning_right(joints)):
                for lead in (0, 1, 61):
                    with self.subTest(words=len(words), lead=lead), self.assertRaises(NoTerm):
                        term_from(["x"] * lead + words, lead)

    def test_a_long_row_of_the_seven_words(self):
        for word in SEVEN:
            for many in (60, 61, 62, 300):
                with self.subTest(word=word, many=many):
                    with self.assertRaises(NoTerm):
                        term_from([word] * many, 0)
                    with self.assertRaises(NoTerm):
                        term_from([word] * many + ["x"] * (many + 1), 0)

    def test_a_term_behind_many_words(self):
        self.assertEqual(term_from(["plus"] * 299 + ["x"], 299), (("x",), 300))
        self.assertEqual(term_from(["plus"] * 298 + ["x", "y"], 297), (("x", "y", "plus"), 300))


class Refused(unittest.TestCase):
    bad = ["", " ", "-", "-0", "007", "-07", "+1", "1_0", "1" + "0" * 29 + "01", "-1" + "0" * 29 + "01", "9" * 4000]
    bad += ["take", "give", "let", "say", "off", "if", "else", "end", "as"]
    bad += ["X", "Gold", "gOLD", "PLUS", "Plus", "abcdefg", "silvers", "x" * 4000]
    bad += ["a b", " x", "x ", "x\n", "\tx", "1 ", " 1", "1\n", "plus ", " plus", "plus x y", "x1", "1x", "x_y", ";", "~"]
    bad += ["\u0663", "\u00e4"]

    def refused(self, words, at=0):
        with self.subTest(words=[word[:40] for word in words], at=at), self.assertRaises(NoTerm):
            term_from(words, at)

    def test_behind_the_last_word(self):
        self.refused([], 0)
        self.refused(["x"], 1)
        self.refused(["plus", "x", "y"], 3)
        self.refused(["x"] * 300, 300)

    def test_the_words_end_ahead_of_the_term(self):
        for text, term in TERMS:
            words = text.split(" ")
            for many in range(len(words)):
                self.refused(words[:many])
                self.refused(["x", "7"] + words[:many], 2)

    def test_one_of_the_seven_alone(self):
        for word in SEVEN:
            self.refused([word])
            self.refused([word, "x"])
            self.refused([word, word, "x", "y"])
            self.refused(["plus", "x", word])

    def test_a_word_of_none_of_the_kinds_alone(self):
        for word in self.bad:
            self.refused([word])
            self.refused([word, "x", "y"])
            self.refused(["x", word], 1)

    def test_such_a_word_at_each_place_of_a_term(self):
        for text, term in TERMS:
            words = text.split(" ")
            for word in self.bad:
                for at in range(len(words)):
                    if len(words) > 1 and words[at] not in SEVEN:
                        self.refused(words[:at] + [word] + words[at + 1:])

    def test_such_a_word_for_one_of_the_seven(self):
        for word in self.bad:
            self.refused(["plus", word, "x", "y"])
            self.refused(["plus", "x", word, "y", "z"])


class Writing(unittest.TestCase):
    def test_words_again(self):
        for text, term in TERMS:
            with self.subTest(text=text):
                self.assertEqual(words_of(term), text.split(" "))

    def test_there_and_back_at_the_greatest_length(self):
        for words in (leaning_left(29), leaning_right(29), varied(leaning_left(29)), varied(leaning_right(29))):
            self.assertEqual(words_of(term_from(words, 0)[0]), words)

    def test_what_is_told_is_a_list_of_texts(self):
        words = words_of((1, "x", "plus"))
        self.assertIs(type(words), list)
        self.assertEqual([type(word) for word in words], [str, str, str])

    def test_each_list_is_the_askers_own(self):
        for term, words in ((("x",), ["x"]), ((5,), ["5"]), ((1, "x", "plus"), ["plus", "1", "x"])):
            one = words_of(term)
            one.append("more")
            one[0] = "other"
            self.assertEqual(words_of(term), words)
            self.assertIsNot(words_of(term), words_of(term))

    def test_argument_by_its_name(self):
        self.assertEqual(words_of(term=("x",)), ["x"])


if __name__ == "__main__":
    unittest.main()
