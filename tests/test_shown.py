"""[12], and [2] as far as it speaks of it: rows shown as text."""

import copy
import unittest

from forerun.reader import read
from forerun.shower import shown
from making import Maker

SAME = [
    "",
    "take a 1 as x",
    "take silver plus x times 2 y as silver",
    "give a 1 2",
    "give a minus 1 2 over x rest y 3",
    "give a over minus 1 2 x rest y 3",
    "let x -5",
    "say 1" + "0" * 30,
    "say -1" + "0" * 30,
    "say 0",
    "off under x same y 1",
    "off under same x y 1",
    "say 1\nsay 2\nlet x 3",
    "if x\nend",
    "if plus x 1\nsay 1\nend",
    "if x\nelse\nsay 1\nend",
    "if x\nsay 1\nlet x 2\nelse\nsay 3\noff 4\nend\nsay 5",
    "say 0\nif x\nif y\nsay 1\nelse\nsay 2\nend\nsay 3\nelse\nif z\nelse\nsay 4\nend\nend",
    "if x\nif x\nif x\nif x\nif x\ngive a x y\nelse\nsay 1\nend\nend\nend\nend\nend",
    "if 1\nend\nif 2\nend\nif 3\nelse\nif 4\nend\nend",
    "\n".join(["say 1"] * 40),
    "say" + " plus" * 29 + " x" * 30,
]
# Texts with an else right ahead of its end, and what they are shown as.
LESS = [
    ("if x\nelse\nend", "if x\nend"),
    ("if x\nsay 1\nelse\nend\nsay 2", "if x\nsay 1\nend\nsay 2"),
    ("if x\nelse\nif y\nelse\nend\nend", "if x\nelse\nif y\nend\nend"),
    ("if x\nif y\nelse\nend\nelse\nend", "if x\nif y\nend\nend"),
    ("if x\nif y\nelse\nend\nelse\nsay 1\nend", "if x\nif y\nend\nelse\nsay 1\nend"),
]


class Shown(unittest.TestCase):
    def test_read_and_shown_again(self):
        for text in SAME:
            with self.subTest(text=text):
                self.assertEqual(shown(read(text)), text)

    def test_an_else_without_rows_behind_it_is_left_out(self):
        for text, less in LESS:
            with self.subTest(text=text):
                self.assertEqual(shown(read(text)), less)
                self.assertEqual(read(less), read(text))

    def test_rows_made_by_hand(self):
        self.assertEqual(shown([]), "")
        self.assertEqual(
            shown([("give", "a", ("x", 2, "y", "times", "plus"), (-3,)), ("take", "b", ("x",), "y")]),
            "give a plus x times 2 y -3\ntake b x as y",
        )
        self.assertEqual(
            shown([("if", ("x",), [], [("say", (1,))]), ("if", (2,), [("off", ("z",))], []), ("let", "q", (0,))]),
            "if x\nelse\nsay 1\nend\nif 2\noff z\nend\nlet q 0",
        )

    def test_kind_told(self):
        self.assertIs(type(shown([])), str)
        self.assertIs(type(shown([("say", (1,))])), str)

    def test_made_up_dealings(self):
        maker = Maker(12)
        for k in range(400):
            text, rows = maker.dealing()
            self.assertEqual(shown(rows), text)
            self.assertEqual(read(shown(rows)), rows)

    def test_elses_put_into_made_up_dealings(self):
        maker = Maker(13)
        for k in range(100):
            text, rows = maker.dealing(15)
            # An else ahead of each end whose block has none yet.
            texts, turned = [], []
            for row in text.split("\n"):
                if row.startswith("if "):
                    turned.append(False)
                if row == "else":
                    turned[-1] = True
                if row == "end" and not turned.pop():
                    texts.append("else")
                texts.append(row)
            self.assertLessEqual(len(texts), 40)
            self.assertEqual(read("\n".join(texts)), rows)
            self.assertEqual(shown(read("\n".join(texts))), text)

    def test_the_rows_handed_in_stay(self):
        maker = Maker(14)
        for k in range(100):
            text, rows = maker.dealing()
            before = copy.deepcopy(rows)
            shown(rows)
            self.assertEqual(rows, before)
            self.assertEqual(shown(rows), text)


if __name__ == "__main__":
    unittest.main()
