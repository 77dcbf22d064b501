"""[14], and [2] as far as it speaks of it: the code of rows."""

import copy
import unittest

from forerun.codes import code_of
from forerun.reader import read
from making import Maker, lists_in

TAKE, GIVE = ("take", "a", (1,), "x"), ("give", "b", (2, "x", "plus"), (3,))
LET, SAY, OFF = ("let", "y", ("x", 0, "over")), ("say", ("y",)), ("off", (1, 2, "under"))
FLAT = [TAKE, GIVE, LET, SAY, OFF]
ONE, TWO, THREE = ("say", (1,)), ("say", (2,)), ("say", (3,))


def own_code(rows):
    """An own code: steps laid down one by one, with numbers put in when they are known."""
    steps, ahead = [], list(reversed(rows))
    while ahead:
        row = ahead.pop()
        if row[0] == "behind":
            steps[row[1]][-1] = len(steps)
        elif row[0] == "turn":
            steps.append(["go", None])
            steps[row[1]][-1] = len(steps)
            ahead.append(("behind", len(steps) - 1))
            ahead.extend(reversed(row[2]))
        elif row[0] == "if":
            steps.append(["skip", row[1], None])
            last = ("turn", len(steps) - 1, row[3]) if row[3] else ("behind", len(steps) - 1)
            ahead.append(last)
            ahead.extend(reversed(row[2]))
        else:
            steps.append(list(row))
    return [tuple(step) for step in steps]


class Codes(unittest.TestCase):
    def code(self, text, steps):
        self.assertEqual(code_of(read(text)), steps, text)

    def test_no_rows(self):
        self.assertEqual(code_of([]), [])

    def test_each_row_but_an_if_is_the_step(self):
        for row in FLAT:
            self.assertEqual(code_of([row]), [row])
        self.assertEqual(code_of(FLAT), FLAT)
        self.assertEqual(code_of(FLAT * 60), FLAT * 60)
        self.assertEqual(code_of([SAY, SAY]), [SAY, SAY])

    def test_an_if_without_other_rows(self):
        self.code("if x\nsay 1\nend", [("skip", ("x",), 2), ONE])
        self.code("if x\nsay 1\nsay 2\nend", [("skip", ("x",), 3), ONE, TWO])
        self.code("if under x 2\nsay 1\nelse\nend", [("skip", ("x", 2, "under"), 2), ONE])

    def test_an_if_with_other_rows(self):
        self.code("if x\nsay 1\nelse\nsay 2\nend", [("skip", ("x",), 3), ONE, ("go", 4), TWO])
        self.code(
            "if 5\nsay 1\nsay 2\nelse\nsay 2\nsay 1\nsay 3\nend",
            [("skip", (5,), 4), ONE, TWO, ("go", 7), TWO, ONE, THREE],
        )

    def test_empty_rows(self):
        self.code("if x\nend", [("skip", ("x",), 1)])
        self.code("if x\nelse\nend", [("skip", ("x",), 1)])
        self.code("if x\nelse\nsay 2\nend", [("skip", ("x",), 2), ("go", 3), TWO])

    def test_rows_ahead_and_behind(self):
        self.code("say 1\nif x\nend\nsay 3", [ONE, ("skip", ("x",), 2), THREE])
        self.code("say 1\nif x\nsay 2\nend\nsay 3", [ONE, ("skip", ("x",), 3), TWO, THREE])
        self.code(
            "say 1\nsay 1\nif x\nsay 1\nelse\nsay 2\nend\nsay 3",
            [ONE, ONE, ("skip", ("x",), 5), ONE, ("go", 6), TWO, THREE],
        )
        self.code("say 1\nif x\nelse\nsay 2\nend\nsay 3", [ONE, ("skip", ("x",), 3), ("go", 4), TWO, THREE])

    def test_ifs_behind_one_another(self):
        self.code("if 1\nend\nif 2\nend\nif 3\nend", [("skip", (1,), 1), ("skip", (2,), 2), ("skip", (3,), 3)])
        self.code("if 1\nsay 1\nend\nif 2\nsay 2\nend", [("skip", (1,), 2), ONE, ("skip", (2,), 4), TWO])
        self.code(
            "if 1\nsay 1\nelse\nsay 2\nend\nif 2\nsay 3\nelse\nsay 1\nend",
            [("skip", (1,), 3), ONE, ("go", 4), TWO, ("skip", (2,), 7), THREE, ("go", 8), ONE],
        )

    def test_blocks_in_blocks(self):
        self.code("if 1\nif 2\nsay 1\nend\nend", [("skip", (1,), 3), ("skip", (2,), 3), ONE])
        self.code("if 1\nsay 1\nif 2\nend\nend\nsay 2", [("skip", (1,), 3), ONE, ("skip", (2,), 3), TWO])
        self.code(
            "say 1\nif 1\nif 2\nsay 1\nelse\nsay 2\nend\nelse\nif 3\nsay 3\nelse\nsay 1\nend\nsay 2\nend\nsay 3",
            [
                ONE, ("skip", (1,), 7), ("skip", (2,), 5), ONE, ("go", 6), TWO, ("go", 12), ("skip", (3,), 10), THREE,
                ("go", 11), ONE, TWO, THREE,
            ],
        )
        self.code("if 1\nelse\nif 2\nend\nend", [("skip", (1,), 2), ("go", 3), ("skip", (2,), 3)])
        self.code("if 1\nelse\nif 2\nelse\nsay 1\nend\nend", [("skip", (1,), 2), ("go", 5), ("skip", (2,), 4), ("go", 5), ONE])

    def test_five_blocks_within_one_another(self):
        self.code("if x\n" * 5 + "say 1" + "\nend" * 5, [("skip", ("x",), 6)] * 5 + [ONE])
        self.code("if x\n" * 5 + "say 1" + "\nend\nsay 2" * 5, [("skip", ("x",), 11 - k) for k in range(1, 6)] + [ONE] + [TWO] * 5)
        self.code(
            "if x\nelse\n" * 5 + "say 1" + "\nend" * 5,
            [step for k in range(5) for step in (("skip", ("x",), 2 * k + 2), ("go", 11))] + [ONE],
        )
        self.code(
            "if x\n" * 5 + "say 1" + "\nelse\nsay 2\nend" * 5,
            [("skip", ("x",), 17 - 2 * k) for k in range(1, 6)] + [ONE] + [each for k in range(5) for each in (("go", 8 + 2 * k), TWO)],
        )

    def test_an_if_at_the_end_of_rows_and_of_other_rows(self):
        self.code(
            "if 1\nsay 1\nif 2\nsay 2\nend\nelse\nsay 3\nif 3\nsay 1\nend\nend",
            [("skip", (1,), 5), ONE, ("skip", (2,), 4), TWO, ("go", 8), THREE, ("skip", (3,), 8), ONE],
        )

    def test_kinds_told(self):
        code = code_of(read("say 1\nif x\nsay 1\nelse\nsay 2\nend"))
        self.assertIs(type(code), list)
        self.assertEqual({type(step) for step in code}, {tuple})
        self.assertEqual([type(part) for part in code[1]], [str, tuple, int])
        self.assertEqual([type(part) for part in code[3]], [str, int])

    def test_argument_by_its_name(self):
        self.assertEqual(code_of(rows=[SAY]), [SAY])

    def test_made_up_dealings(self):
        maker, most = Maker(55), 0
        for k in range(1000):
            rows = maker.dealing(maker.one_of([3, 8, 13, 40]))[1]
            code = code_of(rows)
            self.assertEqual(code, own_code(rows))
            most = max(most, len(code))
        self.assertGreater(most, 30)

    def test_each_step_leads_farther_on_and_none_beyond_the_end(self):
        maker = Maker(89)
        for k in range(300):
            code = code_of(maker.dealing()[1])
            for at, step in enumerate(code):
                if step[0] in ("skip", "go"):
                    self.assertGreater(step[-1], at)
                    self.assertLessEqual(step[-1], len(code))

    def test_the_rows_stay(self):
        maker = Maker(144)
        for k in range(100):
            rows = maker.dealing()[1]
            before, lists = copy.deepcopy(rows), lists_in(rows)
            code = code_of(rows)
            self.assertEqual(rows, before)
            self.assertEqual([id(one) for one in lists_in(rows)], [id(one) for one in lists])
            code.clear()
            self.assertEqual(rows, before)

    def test_the_code_stays_when_rows_are_changed(self):
        rows = read("say 1\nif x\nif y\nsay 2\nend\nelse\nsay 3\nend\nif z\nend")
        code = code_of(rows)
        before = copy.deepcopy(code)
        for one in lists_in(rows):
            one.append(SAY)
            one.reverse()
        self.assertEqual(code, before)
        for one in lists_in(rows):
            one.clear()
        self.assertEqual(code, before)

    def test_each_code_is_the_askers_own(self):
        for rows in ([], [SAY], read("if x\nend"), read("if x\nsay 1\nelse\nsay 2\nend")):
            one, other = code_of(rows), code_of(rows)
            self.assertIsNot(one, rows)
            expected = list(other)
            one.append(SAY)
            one[0] = OFF
            self.assertEqual((other, code_of(rows)), (expected, expected))


if __name__ == "__main__":
    unittest.main()
