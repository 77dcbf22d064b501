"""[9], [10], and [2] as far as it speaks of them: what dealings are read as."""

import unittest

from forerun.reader import read
from making import Maker, lists_in

MOST = 10 ** 30

# Texts, and the rows to which they are read.
FLAT = [
    ("take a 1 as x", [("take", "a", (1,), "x")]),
    ("take silver x as silver", [("take", "silver", ("x",), "silver")]),
    ("take a -1 as a", [("take", "a", (-1,), "a")]),
    ("take a plus x 1 as x", [("take", "a", ("x", 1, "plus"), "x")]),
    ("give a 1 2", [("give", "a", (1,), (2,))]),
    ("give a x y", [("give", "a", ("x",), ("y",))]),
    ("give a plus 1 2 times x 3", [("give", "a", (1, 2, "plus"), ("x", 3, "times"))]),
    ("give a 0 plus minus 1 2 3", [("give", "a", (0,), (1, 2, "minus", 3, "plus"))]),
    ("give a plus minus 1 2 3 0", [("give", "a", (1, 2, "minus", 3, "plus"), (0,))]),
    ("let x 5", [("let", "x", (5,))]),
    ("let x x", [("let", "x", ("x",))]),
    ("let x over rest a b under 1 same y 0", [("let", "x", ("a", "b", "rest", 1, "y", 0, "same", "under", "over"))]),
    ("say 0", [("say", (0,))]),
    ("say 1" + "0" * 30, [("say", (MOST,))]),
    ("say -1" + "0" * 30, [("say", (-MOST,))]),
    ("say told", [("say", ("told",))]),
    ("off 1", [("off", (1,))]),
    ("off same x y", [("off", ("x", "y", "same"))]),
]
BLOCKS = [
    ("if x\nend", [("if", ("x",), [], [])]),
    ("if x\nelse\nend", [("if", ("x",), [], [])]),
    ("if x\nsay 1\nend", [("if", ("x",), [("say", (1,))], [])]),
    ("if x\nsay 1\nelse\nend", [("if", ("x",), [("say", (1,))], [])]),
    ("if x\nelse\nsay 2\nend", [("if", ("x",), [], [("say", (2,))])]),
    ("if x\nsay 1\nelse\nsay 2\nend", [("if", ("x",), [("say", (1,))], [("say", (2,))])]),
    (
        "say 0\nif under x 1\nsay 1\nlet x 2\nelse\nsay 3\noff 4\nend\nsay 5",
        [
            ("say", (0,)),
            ("if", ("x", 1, "under"), [("say", (1,)), ("let", "x", (2,))], [("say", (3,)), ("off", (4,))]),
            ("say", (5,)),
        ],
    ),
    ("if 1\nend\nif 2\nelse\nend\nif 3\nend", [("if", (1,), [], []), ("if", (2,), [], []), ("if", (3,), [], [])]),
    (
        "if 1\nif 2\nsay 1\nelse\nsay 2\nend\nsay 3\nelse\nif 3\nelse\nsay 4\nend\nend",
        [(
            "if", (1,),
            [("if", (2,), [("say", (1,))], [("say", (2,))]), ("say", (3,))],
            [("if", (3,), [], [("say", (4,))])],
        )],
    ),
    ("if 1\nelse\nif 2\nend\nsay 1\nend", [("if", (1,), [], [("if", (2,), [], []), ("say", (1,))])]),
]


def five_deep():
    """Five blocks in one another, rows ahead, within and behind."""
    texts = [text for k in range(5) for text in (f"if {k}", f"say {k}")]
    texts += [text for k in (4, 3, 2, 1, 0) for text in ("else", f"say -{k + 1}", "end")]
    inner = []
    for k in (4, 3, 2, 1, 0):
        row = ("if", (k,), [("say", (k,))] + inner, [("say", (-k - 1,))])
        inner = [row]
    return ("\n".join(texts), inner)


class Read(unittest.TestCase):
    def test_the_text_without_signs(self):
        self.assertEqual(read(""), [])

    def test_rows_of_their_own(self):
        for text, rows in FLAT:
            with self.subTest(text=text):
                self.assertEqual(read(text), rows)

    def test_rows_one_after_the_other(self):
        for start in range(len(FLAT)):
            some = FLAT[start:] + FLAT[:start]
            self.assertEqual(read("\n".join(text for text, rows in some)), [row for text, rows in some for row in rows])

    def test_blocks(self):
        for text, rows in BLOCKS:
            with self.subTest(text=text):
                self.assertEqual(read(text), rows)

    def test_rows_within_blocks(self):
        for text, rows in FLAT + BLOCKS:
            with self.subTest(text=text):
                self.assertEqual(read(f"if x\n{text}\nend"), [("if", ("x",), rows, [])])
                self.assertEqual(read(f"if x\nelse\n{text}\nend"), [("if", ("x",), [], rows)])
                self.assertEqual(read(f"if x\n{text}\nelse\n{text}\nend"), [("if", ("x",), rows, rows)])

    def test_five_blocks_in_one_another(self):
        text, rows = five_deep()
        self.assertEqual(read(text), rows)
        self.assertEqual(read("\n".join(["if x"] * 5 + ["end"] * 5)), [
            ("if", ("x",), [("if", ("x",), [("if", ("x",), [("if", ("x",), [("if", ("x",), [], [])], [])], [])], [])], [])
        ])

    def test_five_blocks_within_elses(self):
        text = "\n".join(["if x", "else"] * 5 + ["say 1"] + ["end"] * 5)
        rows = [("say", (1,))]
        for k in range(5):
            rows = [("if", ("x",), [], rows)]
        self.assertEqual(read(text), rows)

    def test_a_block_that_ended_counts_no_more(self):
        text = "\n".join(["if x"] * 4 + ["if y", "end", "if z", "end"] + ["end"] * 4 + ["if w", "end"] * 6)
        rows = [("if", ("y",), [], []), ("if", ("z",), [], [])]
        for k in range(4):
            rows = [("if", ("x",), rows, [])]
        self.assertEqual(read(text), rows + [("if", ("w",), [], [])] * 6)

    def test_each_block_has_an_else_of_its_own(self):
        self.assertEqual(
            read("if 1\nelse\nif 2\nelse\nsay 1\nend\nend\nif 3\nelse\nend"),
            [("if", (1,), [], [("if", (2,), [], [("say", (1,))])]), ("if", (3,), [], [])],
        )

    def test_terms_of_many_words(self):
        right = ("plus x " * 28 + "1").split(" ")
        self.assertEqual(len(right), 57)
        told = ("x",) * 28 + (1,) + ("plus",) * 28
        text = " ".join(right)
        self.assertEqual(read(f"say {text}"), [("say", told)])
        self.assertEqual(read(f"let y {text}"), [("let", "y", told)])
        self.assertEqual(read(f"give a 5 {text}"), [("give", "a", (5,), told)])
        self.assertEqual(read(f"give a {text} 5"), [("give", "a", told, (5,))])

    def test_forty_rows(self):
        self.assertEqual(read("\n".join(["say 1"] * 40)), [("say", (1,))] * 40)
        self.assertEqual(read("\n".join(["if 1"] + ["say 1"] * 38 + ["end"])), [("if", (1,), [("say", (1,))] * 38, [])])

    def test_kinds_told(self):
        text, rows = five_deep()
        told = read(text + "\ntake a 1 as x\ngive a 1 2\nlet x 1\noff 0")
        self.assertEqual({type(each) for each in lists_in(told)}, {list})
        for each in lists_in(told):
            for row in each:
                self.assertIs(type(row), tuple)
                for part in row[1:]:
                    self.assertIn(type(part), (str, tuple) if row[0] != "if" else (tuple, list))
        self.assertEqual([type(part) for part in told[1]], [str, str, tuple, str])

    def test_made_up_dealings(self):
        maker = Maker(5)
        for k in range(400):
            text, rows = maker.dealing()
            self.assertEqual(read(text), rows)

    def test_no_two_lists_told_are_one(self):
        text = "if 1\nelse\nend\nif 2\nif 3\nend\nelse\nend"
        told = [read(text), read(text), read(""), read("")]
        lists = [each for rows in told for each in lists_in(rows)]
        self.assertEqual(len({id(each) for each in lists}), 16)
        for each in lists:
            each.append(("say", (1,)))
        self.assertEqual([len(each) for each in lists_in(told[2]) + lists_in(told[3])], [1, 1])
        self.assertEqual(read(text), [("if", (1,), [], []), ("if", (2,), [("if", (3,), [], [])], [])])
        self.assertEqual(read(""), [])


if __name__ == "__main__":
    unittest.main()
