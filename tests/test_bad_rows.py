"""[11]: which texts are no dealings, and which row is told."""

import unittest

from forerun.errors import ForerunError, NoDealing
from forerun.reader import read

MOST = "1" + "0" * 30
MORE = "1" + "0" * 29 + "1"

GOOD = ["say 1", "if x", "let y 2", "else", "off y", "end", "take a x as x", "give a 1 2"]

# Bad wherever they stand.
NO_FORMS = [
    # Blanks, tabs, rows without signs.
    "", " ", "  ", "\t", " say 1", "say 1 ", "say  1", "\tsay 1", "say 1\t", "say\t1", "say plus 1\t2", "say ", "say",
    " let x 1", "let  x 1", "let x  1", "let x 1 ", " if 1", "if 1 ", "if  1", " else", "else ", " end", "end ",
    "take  a 1 as x", "take a  1 as x", "take a 1  as x", "take a 1 as  x", "take a 1 as x ", " take a 1 as x",
    "give  a 1 2", "give a  1 2", "give a 1  2", "give a 1 2 ", " give a 1 2", "off 1 ", "off  1", " off 1",
    # First words that are none of the eight.
    "tell 1", "Say 1", "SAY 1", "sayx 1", "sa 1", "1", "x", "as", "plus 1 2", "same x y", "as x", "then", "elseif 1",
    "elif 1", "fi", "7 say", "x 1", "say1", "lets x 1", "if1", "~", "#", "say;", "-", "else:", "end.",
    # take: words lacking, too many, the as lacking, no names, no terms.
    "take", "take a", "take a 1", "take a 1 as", "take a 1 x", "take a as x", "take as x", "take 1 as x",
    "take a 1 as x y", "take a 1 as x 1", "take a 1 as x as", "take a 1 as as x", "take a 1 as x as y", "take a 1 2 as x",
    "take a x y as x", "take a plus 1 as x", "take a plus 1 2 3 as x", "take a plus as x as x", "take 1 1 as x",
    "take a 1 as 1", "take a 1 as -1", "take A 1 as x", "take a 1 as X", "take silvers 1 as x", "take a 1 as silvers",
    "take a1 1 as x", "take a 1 as x1", "take end 1 as x", "take as 1 as x", "take a 1 as as", "take a 1 as off",
    "take plus 1 as x", "take a 1 as plus", "take a 1 is x", "take a 1 AS x", "take a 1 a x", "take a 1 ass x",
    "take a 01 as x", "take a +1 as x", "take a -0 as x", "take a " + MORE + " as x", "take a if as x",
    "take a 1 plus x", "take a 1 1 x", "take", "take a 1 as x plus",
    # give
    "give", "give a", "give a 1", "give a 1 2 3", "give a x y z", "give 1 2", "give 1 2 3", "give plus 1 2 3",
    "give a plus 1 2", "give a 1 plus 2", "give a plus 1 2 plus 3", "give a plus 1 2 3 4", "give A 1 2",
    "give silvers 1 2", "give a1 1 2", "give same 1 2", "give as 1 2", "give take 1 2", "give a 1 as 2", "give a 1 as x",
    "give a 01 2", "give a 1 02", "give a 1 " + MORE, "give a -" + MORE + " 1", "give a 1 X", "give a off 2",
    "give a 1 end", "give a -0 1", "give a 1 -0", "give a 1 silvers", "give a 1.5 2", "give a b.c 2",
    # let
    "let", "let x", "let 1", "let x 1 2", "let x y z", "let 1 2", "let plus 1 2", "let x plus 1", "let x plus 1 2 3",
    "let X 1", "let silvers 1", "let x1 1", "let if 1", "let as 1", "let rest 1", "let x as 1", "let x as", "let x 1 as",
    "let x 007", "let x = 1", "let x let", "let x " + MORE, "let x -" + MORE, "let x Y", "let x x1", "let -1 x",
    # say, off, if
    "say 1 2", "say x y", "say plus", "say plus 1", "say plus 1 2 3", "say times plus 1 2", "say say", "say as", "say end",
    "say 007", "say -0", "say +1", "say --1", "say -", "say 1-", "say 1_0", "say 1.0", "say 1e3", "say 0x1",
    "say " + MORE, "say -" + MORE, "say silvers", "say X", "say x1", "say x,y", "say plus 1 Z", "say plus Z 1",
    "off", "off 1 2", "off plus 1", "off plus 1 2 3", "off off", "off -0", "off X", "off as 1", "off " + MORE,
    "if", "if 1 2", "if plus 1", "if plus 1 2 3", "if if", "if -0", "if X", "if as 1", "if 1 say 2", "if " + MORE,
    # else, end
    "else 1", "else x", "else else", "else if 1", "else end", "Else", "ELSE", "end 1", "end x", "end end", "end if",
    "end else", "End", "END",
]


def left(joints):
    return " ".join(["plus"] * joints + ["x"] * (joints + 1))


def right(joints):
    return "plus x " * joints + "x"


class BadRows(unittest.TestCase):
    def bad(self, texts, row):
        text = "\n".join(texts)
        with self.assertRaises(NoDealing) as caught:
            read(text)
        self.assertEqual((type(caught.exception.row), caught.exception.row), (int, row), text[:200])
        self.assertIsInstance(caught.exception, ForerunError)

    def good(self, texts):
        self.assertIs(type(read("\n".join(texts))), list)

    def test_none_of_the_eight_forms(self):
        for text in NO_FORMS:
            # One row without signs alone would be the text that has no row.
            if text != "":
                self.bad([text], 0)
            self.bad([text, "say 1"], 0)
            self.bad(["say 1", text], 1)
            self.bad(["if x", text, "end"], 1)
            self.bad(["if x", "else", text, "end"], 2)

    def test_at_every_row(self):
        self.good(GOOD)
        for text in ["", "say", "give a 1", "take a 1 x", "let 1 x", "off", "if", "else 1", "end end", "x"]:
            for row in range(len(GOOD) + 1):
                self.bad(GOOD[:row] + [text] + GOOD[row:], row)

    def test_the_first_of_several(self):
        for first in range(len(GOOD) + 1):
            for second in range(first, len(GOOD) + 1):
                self.bad(GOOD[:first] + ["say"] + GOOD[first:second] + ["", "else x"] + GOOD[second:], first)
                self.bad(GOOD[:first] + ["end 1"] + GOOD[first:second] + [left(40)] + GOOD[second:], first)

    def test_the_first_of_several_kinds(self):
        self.bad(["else", "say"], 0)
        self.bad(["say", "else"], 0)
        self.bad(["say 1", "end", "say", "say 1"], 1)
        self.bad(["say 1", "say", "end", "say 1"], 1)
        self.bad(["if x", "else", "else", "say"], 2)
        self.bad(["if x", "else", "say", "else"], 2)
        self.bad(["if x"] * 6 + ["say"], 5)
        self.bad(["if x"] * 5 + ["say", "if x"], 5)
        self.bad(["say"] + ["say 1"] * 50, 0)
        self.bad(["say 1"] * 39 + ["say", "say 1"], 39)
        self.bad(["say 1"] * 40 + ["say", "say 1"], 40)

    def test_line_feeds(self):
        self.bad(["", ""], 0)
        self.bad(["say 1", ""], 1)
        self.bad(["", "say 1"], 0)
        self.bad(["say 1", "", "say 1"], 1)
        self.bad(["if 1", "end", ""], 2)
        self.bad(GOOD + [""], len(GOOD))
        self.bad([""] * 300, 0)

    def test_sixty_words(self):
        # A joint is two words: in these forms behind sixty come sixty-two.
        for lean in (left, right):
            for ahead in ("say", "off"):
                self.good([f"{ahead} {lean(29)}"])
                self.bad([f"{ahead} {lean(30)}"], 0)
            self.good([f"if {lean(29)}", "end"])
            self.bad([f"if {lean(30)}", "end"], 0)
            for first, second in [(0, 28), (14, 14), (28, 0)]:
                self.good([f"give a {lean(first)} {lean(second)}"])
                self.bad([f"give a {lean(first + 1)} {lean(second)}"], 0)
                self.bad([f"give a {lean(first)} {lean(second + 1)}"], 0)

    def test_sixty_one_words(self):
        # In a let and a take the words come to an odd number: fifty-nine, and then sixty-one.
        self.good([f"let x {left(28)}"])
        self.bad([f"let x {left(29)}"], 0)
        self.bad([f"let x {right(29)}"], 0)
        self.good([f"take a {right(27)} as x"])
        self.bad([f"take a {right(28)} as x"], 0)
        self.bad(GOOD + [f"let x {left(29)}"], len(GOOD))
        for text in [f"say {left(29)} 1", f"if {left(29)} x", f"give a {left(14)} {right(14)} x", "else" + " x" * 60]:
            self.assertEqual(len(text.split(" ")), 61)
            self.bad(["if x", text], 1)

    def test_sixty_words_that_are_no_form(self):
        self.bad(["say" + " x" * 59], 0)
        self.bad(["say" + " plus" * 59], 0)

    def test_more_than_a_thousand_words(self):
        for text in [
            f"say {left(600)}", f"say {right(600)}", f"let x {left(1500)}", f"give a {left(600)} {left(600)}",
            f"if {left(2000)}", f"take a {right(900)} as x", "say" + " plus" * 1200, "x " * 1200, " " * 1200,
            "end" + " end" * 1100, "take a" + " 1" * 1100 + " as x",
        ]:
            self.assertGreater(len(text.split(" ")), 1000)
            self.bad([text], 0)
            self.bad(GOOD + [text], len(GOOD))

    def test_words_of_thousands_of_signs(self):
        for word in ["1" * 4000, "-" + "1" * 4000, "0" * 4000, "a" * 4000, "-" * 4000, "\t" * 4000]:
            for text in [word, f"say {word}", f"let {word} 1", f"take a {word} as x", f"take a 1 {word} x"]:
                self.bad([text], 0)
                self.bad(["say 1", text], 1)

    def test_an_else_with_no_block(self):
        self.bad(["else"], 0)
        self.bad(["say 1", "else"], 1)
        self.bad(["if x", "end", "else"], 2)
        self.bad(["if x", "else", "end", "else", "end"], 3)
        self.bad(["else", "if x", "end"], 0)

    def test_a_second_else_of_a_block(self):
        self.bad(["if x", "else", "else", "end"], 2)
        self.bad(["if x", "say 1", "else", "say 2", "else", "say 3", "end"], 4)
        self.bad(["if x", "else", "if y", "end", "else", "end"], 4)
        self.bad(["if x", "else", "if y", "else", "else", "end", "end"], 4)
        self.bad(["if x", "else", "if y", "else", "end", "else", "end"], 5)
        self.bad(["if x", "if y", "else", "end", "else", "else", "end"], 5)
        self.good(["if x", "if y", "else", "end", "else", "end"])
        self.good(["if x", "else", "if y", "else", "end", "end"])
        self.good(["if x", "else", "end", "if x", "else", "end"])

    def test_an_end_with_no_block(self):
        self.bad(["end"], 0)
        self.bad(["say 1", "end", "say 2"], 1)
        self.bad(["if x", "end", "end"], 2)
        self.bad(["if x", "else", "end", "say 1", "end"], 4)
        self.bad(["if x"] * 5 + ["end"] * 6, 10)
        self.bad(["end", "if x"], 0)

    def test_a_sixth_block(self):
        self.good(["if x"] * 5 + ["end"] * 5)
        self.bad(["if x"] * 6 + ["end"] * 6, 5)
        self.bad(["if x"] * 7 + ["end"] * 7, 5)
        self.bad(["if x"] * 5 + ["say 1", "else", "if x", "end"] + ["end"] * 5, 7)
        self.bad(["if x", "else"] * 5 + ["if x", "end"] + ["end"] * 5, 10)
        self.bad(["if x"] * 5 + ["end", "if x", "end", "if x", "say 1", "if x"], 10)
        self.good(["if x"] * 5 + ["end", "if x", "end"] + ["end"] * 4)
        self.good(["if x", "end"] * 6)

    def test_rows_from_number_40_on(self):
        self.good(["say 1"] * 40)
        for many in (41, 42, 80, 300):
            self.bad(["say 1"] * many, 40)
        self.bad(["say 1"] * 40 + [""], 40)
        self.good(["say 1"] * 38 + ["if x", "end"])
        self.bad(["say 1"] * 39 + ["if x", "end"], 40)
        self.bad(["say 1"] * 38 + ["if x", "else", "end"], 40)
        self.bad(["if x"] + ["say 1"] * 39 + ["end"], 40)
        self.bad(["if x", "end"] * 21, 40)

    def test_a_block_open_at_the_end(self):
        for many in range(1, 6):
            self.bad(["if x"] * many, many)
            self.bad(["if x"] * many + ["end"] * (many - 1), 2 * many - 1)
            self.bad(["if x", "else"] * many, 2 * many)
        self.bad(["if x", "say 1"], 2)
        self.bad(["if x", "else", "say 1"], 3)
        self.bad(["say 1", "if x", "end", "if x"], 4)
        self.bad(["say 1"] * 38 + ["if x"], 39)
        self.bad(["say 1"] * 39 + ["if x"], 40)
        self.bad(["if x"] + ["say 1"] * 39, 40)
        self.bad(["if x"] + ["say 1"] * 38, 39)

    def test_a_block_open_at_the_end_and_a_bad_row(self):
        self.bad(["if x", "say"], 1)
        self.bad(["if x", ""], 1)
        self.bad(["say", "if x"], 0)
        self.bad(["say 1", "let x", "if x", "say 1"], 1)
        self.bad(["if x", "else", "else"], 2)
        self.bad(["if x"] * 6, 5)
        self.bad(["if x"] + ["say 1"] * 40, 40)
        self.bad(["if x"] + ["say 1"] * 50, 40)


if __name__ == "__main__":
    unittest.main()
