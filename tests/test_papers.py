"""[16], [3] as far as it speaks of a run and its paper, and [2] as far as it speaks of them: papers, runs fed."""

import copy
import unittest

from forerun.codes import code_of
from forerun.plain import alone, one_by_one
from forerun.runs import Run, fed
from forerun.tables import laid_on
from making import Maker, code, own_paper

MOST = 10 ** 30
NOUGHT = "over 1 0"
GREAT = f"plus {MOST} 1"
TABLE = [(("a", -1), -8), (("a", 0), 7), (("a", 1), MOST), (("ab", 0), 5), (("b", 0), -2)]
BREAKS = [("off 1", "told"), (f"say {GREAT}", "great"), (f"say {NOUGHT}", "nought")]


def behind_all(run, worth=0):
    while not run.over():
        run.step(worth)
    return run


class Papers(unittest.TestCase):
    def paper(self, text, paper, worth=0):
        self.assertEqual(behind_all(Run(code(text)), worth).paper(), paper, text)

    def test_none_where_the_run_is_not_over(self):
        for text in ["say 1\nsay 2", "take a 0 as x\ngive a 1 x\noff 1", "if 1\nsay 1\nelse\nsay 2\nend", f"say {GREAT}"]:
            run = Run(code(text))
            while not run.over():
                self.assertIsNone(run.paper())
                run.step()
            self.assertIsNotNone(run.paper())

    def test_of_a_code_without_steps(self):
        self.assertEqual(Run([]).paper(), (("done", ()), [], []))
        self.assertEqual(fed([], TABLE), (("done", ()), [], []))

    def test_outcome_done(self):
        self.paper("say 3\nsay 1\nsay 3", (("done", (3, 1, 3)), [], []))
        self.paper(f"let x {MOST}\nsay x\nsay minus 0 x", (("done", (MOST, -MOST)), [], []))

    def test_outcome_broken_off(self):
        for row, why in BREAKS:
            self.paper(f"say 4\n{row}\nsay 5", (("off", why), [], []))
            self.paper(row, (("off", why), [], []))

    def test_notes_in_the_order_in_which_they_were_asked(self):
        self.paper(
            "take b 5 as x\ntake a 9 as x\ntake a -3 as x\ntake b 5 as x\ntake ab 0 as x\ntake a 9 as x\ntake b 4 as x",
            (("done", ()), [(("b", 5), 2), (("a", 9), 2), (("a", -3), 2), (("ab", 0), 2), (("b", 4), 2)], []), 2,
        )

    def test_notes_of_a_run_that_was_broken_off(self):
        for row, why in BREAKS + [(f"take q {NOUGHT} as x", "nought"), (f"take q {GREAT} as x", "great")]:
            self.paper(
                f"take b 5 as x\ngive c 0 1\ntake a 9 as x\ntake c 0 as x\n{row}\ntake d 1 as x",
                (("off", why), [(("b", 5), 2), (("a", 9), 2)], []), 2,
            )

    def test_gifts_sorted_by_place(self):
        self.paper(
            f"give b 0 1\ngive a 10 2\ngive a 9 3\ngive aa 0 4\ngive a -{MOST} 5\ngive a -1 6\ngive silver 0 7\ngive a {MOST} 8",
            (
                ("done", ()), [],
                [
                    (("a", -MOST), 5), (("a", -1), 6), (("a", 9), 3), (("a", 10), 2), (("a", MOST), 8), (("aa", 0), 4),
                    (("b", 0), 1), (("silver", 0), 7),
                ],
            ),
        )

    def test_each_place_once_with_its_last_worth(self):
        self.paper("give a 0 1\ngive b 0 9\ngive a 0 2\ngive a 1 4\ngive a 0 3",
                   (("done", ()), [], [(("a", 0), 3), (("a", 1), 4), (("b", 0), 9)]))
        self.paper("give a 0 9\ngive a 0 1", (("done", ()), [], [(("a", 0), 1)]))

    def test_worths_of_0_too(self):
        self.paper("give a 0 0", (("done", ()), [], [(("a", 0), 0)]))
        self.paper("give a 0 4\ngive a 0 0\ngive b 0 0\ngive b 0 1", (("done", ()), [], [(("a", 0), 0), (("b", 0), 1)]))
        self.paper("take a 0 as x\ngive a 0 x", (("done", ()), [(("a", 0), 0)], [(("a", 0), 0)]))

    def test_no_gifts_where_it_was_broken_off(self):
        for row, why in BREAKS:
            self.paper(f"give a 0 1\ngive b 0 0\n{row}\ngive c 0 1", (("off", why), [], []))

    def test_kinds_told(self):
        for row in ["say same 1 1", "off 1", f"say {GREAT}", f"say {NOUGHT}"]:
            paper = fed(code(f"take a 0 as x\ngive b 0 under 1 2\n{row}"), TABLE)
            self.assertEqual([type(part) for part in (paper, *paper)], [tuple, tuple, list, list])
            self.assertEqual(len(paper), 3)
            self.assertEqual(len(paper[0]), 2)
            for place, worth in paper[1] + paper[2]:
                self.assertEqual([type(part) for part in (place, *place, worth)], [tuple, str, int, int])
            if paper[0][0] == "done":
                self.assertEqual([type(paper[0][1]), type(paper[0][1][0])], [tuple, int])

    def test_each_paper_is_made_of_lists_of_its_own(self):
        for row in ["say 1"] + [row for row, why in BREAKS]:
            for head in ["", "take a 0 as x\ngive a 1 2\ntake b 0 as x\n"]:
                run = behind_all(Run(code(head + row)), 4)
                papers = [run.paper() for k in range(3)]
                expected = copy.deepcopy(papers[0])
                lists = [one for paper in papers for one in paper[1:]]
                self.assertEqual(len({id(one) for one in lists}), 6)
                papers[0][1].append((("z", 0), 1))
                papers[0][2].append((("z", 0), 1))
                papers[1][1].clear()
                papers[1][2].clear()
                self.assertEqual((papers[2], run.paper()), (expected, expected))
                run.step(8)
                self.assertEqual(papers[2], expected)

    def test_answered_alike_the_paper_is_the_same(self):
        maker = Maker(1597)
        for k in range(300):
            steps = code_of(maker.dealing()[1])
            answers = [(3 * k + at) % 7 - 2 for at in range(len(steps))]
            papers = []
            for often in (0, 1, 3):
                run, at = Run(steps), 0
                while not run.over():
                    for each in range(often):
                        run.asks()
                        run.paper()
                    run.step(answers[at])
                    at += 1
                papers.append(run.paper())
            self.assertEqual([papers[1], papers[2]], [papers[0]] * 2)

    def test_answered_by_its_own_notes(self):
        maker = Maker(2584)
        for k in range(300):
            text, rows = maker.dealing()
            paper = fed(code_of(rows), maker.table())
            # The notes as told are all that a run need be told; whatever else stands in a table changes nothing.
            table = [note for note in paper[1] if note[1] != 0] + [(("zz", k), 1)]
            self.assertEqual(fed(code_of(rows), sorted(table)), paper)


class Fed(unittest.TestCase):
    def test_each_asking_is_answered_by_what_stands_there(self):
        for (shelf, number), worth in TABLE:
            paper = fed(code(f"take {shelf} {number} as x\nsay x"), TABLE)
            self.assertEqual(paper, (("done", (worth,)), [((shelf, number), worth)], []))
        for shelf, number in [("a", 2), ("b", 1), ("abc", 0), ("c", -MOST)]:
            paper = fed(code(f"take {shelf} {number} as x\nsay x"), TABLE)
            self.assertEqual(paper, (("done", (0,)), [((shelf, number), 0)], []))
            self.assertEqual(fed(code("take a 0 as x\nsay x"), []), (("done", (0,)), [(("a", 0), 0)], []))

    def test_notes_and_gifts(self):
        self.assertEqual(
            fed(code("take b 0 as x\ntake a 0 as y\ngive b 0 y\ntake b 0 as z\ngive a 5 z\nsay plus x z\ngive a 0 0"), TABLE),
            (("done", (5,)), [(("b", 0), -2), (("a", 0), 7)], [(("a", 0), 0), (("a", 5), 7), (("b", 0), 7)]),
        )

    def test_arguments_by_their_names(self):
        self.assertEqual(fed(code=code("say 1"), table=[]), (("done", (1,)), [], []))

    def test_as_the_dealing_alone(self):
        maker, seen = Maker(4181), {}
        for k in range(1500):
            text, rows = maker.dealing(maker.one_of([1, 3, 5, 8, 13, 40]))
            table = maker.table()
            paper = fed(code_of(rows), table)
            self.assertEqual((paper[0], laid_on(table, paper[2])), alone(rows, table), text)
            self.assertEqual(paper, own_paper(text, lambda place: dict(table).get(place, 0)), text)
            seen[paper[0] if paper[0][0] == "off" else "done"] = True
        self.assertEqual(len(seen), 4)

    def test_one_by_one(self):
        maker = Maker(6765)
        for k in range(40):
            dealings = [maker.dealing(maker.one_of([2, 4, 7, 12]))[1] for each in range(20)]
            table = maker.table()
            outcomes, behind = [], table
            for rows in dealings:
                outcome, notes, gifts = fed(code_of(rows), behind)
                outcomes.append(outcome)
                behind = laid_on(behind, gifts)
            self.assertEqual((outcomes, behind), one_by_one(dealings, table))

    def test_code_and_table_stay(self):
        maker = Maker(10946)
        for k in range(100):
            steps, table = code_of(maker.dealing()[1]), maker.table()
            before = (copy.deepcopy(steps), copy.deepcopy(table))
            first, second = fed(steps, table), fed(steps, table)
            self.assertEqual(((steps, table), first), (before, second))
            first[1].clear()
            first[2].clear()
            self.assertEqual(((steps, table), fed(steps, table)), (before, second))

    def test_what_becomes_of_code_and_table_changes_nothing(self):
        steps, table = code("take a 0 as x\ngive a 0 plus x 1\nsay x"), copy.deepcopy(TABLE)
        paper = fed(steps, table)
        steps.clear()
        table.clear()
        self.assertEqual(paper, (("done", (7,)), [(("a", 0), 7)], [(("a", 0), 8)]))


if __name__ == "__main__":
    unittest.main()
