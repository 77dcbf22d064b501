"""[15], and [2] as far as it speaks of it: runs, step by step."""

import copy
import unittest

from forerun.codes import code_of
from forerun.runs import Run
from making import Maker, code, own_paper

MOST = 10 ** 30
NOUGHT = "over 1 0"
GREAT = f"plus {MOST} 1"


def run_of(text):
    return Run(code(text))


def walked(text, worths):
    """A tuple (what was asked ahead of each step, paper), each asking answered by the next of the worths."""
    run, asked, left = run_of(text), [], list(worths)
    while not run.over():
        asked.append(run.asks())
        if asked[-1] is None:
            run.step()
        else:
            run.step(left.pop(0))
    assert left == [], left
    return (asked, run.paper())


class Asked(unittest.TestCase):
    def goes(self, text, worths, asked, paper):
        self.assertEqual(walked(text, worths), (asked, paper), text)

    def test_a_code_without_steps_is_over_at_once(self):
        run = Run([])
        self.assertIs(run.over(), True)
        self.assertIsNone(run.asks())
        self.assertEqual(run.paper(), (("done", ()), [], []))

    def test_over_behind_the_last_step(self):
        run = run_of("say 1\nlet x 2\nsay x")
        for k in range(3):
            self.assertIs(run.over(), False)
            self.assertIsNone(run.step())
        self.assertIs(run.over(), True)
        self.assertEqual(run.paper(), (("done", (1, 2)), [], []))

    def test_each_row_but_a_take_asks_for_nothing(self):
        for row in ["give a 1 2", "let x 1", "say 1", "off 0", "if 1\nend", "if 0\nelse\nlet x 1\nend"]:
            self.assertIsNone(run_of(row).asks(), row)
            # Nor is anything asked where a take comes next but one.
            self.assertIsNone(run_of(f"{row}\ntake a 0 as x").asks(), row)

    def test_a_take_asks_for_its_place(self):
        run = run_of("take a 5 as x\nsay x")
        self.assertEqual(run.asks(), ("a", 5))
        self.assertIs(type(run.asks()), tuple)
        self.assertIs(run.over(), False)
        self.assertIsNone(run.step(7))
        self.assertIsNone(run.asks())
        run.step()
        self.assertEqual(run.paper(), (("done", (7,)), [(("a", 5), 7)], []))

    def test_a_worth_that_is_not_handed_in_is_0(self):
        run = run_of("take a 5 as x\nsay x")
        run.step()
        run.step()
        self.assertEqual(run.paper(), (("done", (0,)), [(("a", 5), 0)], []))

    def test_the_worth_by_its_name(self):
        run = Run(code=code("take a 5 as x\nsay x"))
        run.step(worth=-MOST)
        run.step(worth=3)
        self.assertEqual(run.paper(), (("done", (-MOST,)), [(("a", 5), -MOST)], []))

    def test_what_was_taken_goes_into_the_slot_alone(self):
        self.goes(
            "let x 1\nlet y 2\ntake a 0 as x\nsay x\nsay y\nsay a", [9], [None, None, ("a", 0), None, None, None],
            (("done", (9, 2, 0)), [(("a", 0), 9)], []),
        )

    def test_several_places(self):
        self.goes(
            "take b 1 as x\ntake a 1 as y\ntake b 0 as z\nsay x\nsay y\nsay z", [4, 0, -6],
            [("b", 1), ("a", 1), ("b", 0), None, None, None],
            (("done", (4, 0, -6)), [(("b", 1), 4), (("a", 1), 0), (("b", 0), -6)], []),
        )

    def test_places_whose_number_is_reckoned(self):
        self.goes(
            "take a 0 as x\ntake a x as x\ntake b plus x 1 as x\nsay x", [3, -5, MOST], [("a", 0), ("a", 3), ("b", -4), None],
            (("done", (MOST,)), [(("a", 0), 3), (("a", 3), -5), (("b", -4), MOST)], []),
        )
        self.goes("let x 2\ntake a times x x as y\ntake a y as y", [1, 8], [None, ("a", 4), ("a", 1)],
                  (("done", ()), [(("a", 4), 1), (("a", 1), 8)], []))
        # A slot that nothing went into is worth 0.
        self.goes("take a q as x", [5], [("a", 0)], (("done", ()), [(("a", 0), 5)], []))

    def test_a_place_that_was_noted(self):
        self.goes(
            "take a 0 as x\ntake a 0 as y\ntake a minus 1 1 as z\nsay x\nsay y\nsay z", [6],
            [("a", 0), None, None, None, None, None], (("done", (6, 6, 6)), [(("a", 0), 6)], []),
        )
        self.goes("take a 0 as x\nlet x 3\ntake a 0 as x\nsay x", [6], [("a", 0), None, None, None],
                  (("done", (6,)), [(("a", 0), 6)], []))

    def test_a_place_that_was_noted_with_0(self):
        self.goes("take a 0 as x\ntake a 0 as y\nsay y", [0], [("a", 0), None, None],
                  (("done", (0,)), [(("a", 0), 0)], []))

    def test_a_place_to_which_it_gave(self):
        self.goes("give a 0 5\ntake a 0 as x\nsay x", [], [None] * 3, (("done", (5,)), [], [(("a", 0), 5)]))
        self.goes("give a 0 5\ngive a 0 6\ntake a 0 as x\nsay x", [], [None] * 4, (("done", (6,)), [], [(("a", 0), 6)]))
        self.goes("give a plus 1 1 5\nlet y 2\ntake a y as x\nsay x", [], [None] * 4, (("done", (5,)), [], [(("a", 2), 5)]))

    def test_a_place_to_which_it_gave_0(self):
        self.goes("give a 0 0\ntake a 0 as x\nsay x", [], [None] * 3, (("done", (0,)), [], [(("a", 0), 0)]))
        self.goes("give a 0 4\ngive a 0 0\ntake a 0 as x\nsay x", [], [None] * 4, (("done", (0,)), [], [(("a", 0), 0)]))

    def test_a_place_beside_one_to_which_it_gave(self):
        for beside in ("a 1", "a -1", "b 0", "aa 0"):
            shelf, number = beside.split(" ")
            self.goes(f"give a 0 5\ntake {beside} as x\nsay x", [8], [None, (shelf, int(number)), None],
                      (("done", (8,)), [((shelf, int(number)), 8)], [(("a", 0), 5)]))

    def test_a_note_that_is_given_to_later(self):
        self.goes(
            "take a 0 as x\ngive a 0 plus x 1\ntake a 0 as y\nsay x\nsay y", [6], [("a", 0), None, None, None, None],
            (("done", (6, 7)), [(("a", 0), 6)], [(("a", 0), 7)]),
        )
        self.goes("take a 0 as x\ngive a 0 0\ntake a 0 as y\nsay y", [6], [("a", 0), None, None, None],
                  (("done", (0,)), [(("a", 0), 6)], [(("a", 0), 0)]))

    def test_a_take_behind_a_give_is_no_note(self):
        self.goes("give a 0 5\ntake a 0 as x\ngive a 0 9\ntake a 0 as y\nsay y", [], [None] * 5,
                  (("done", (9,)), [], [(("a", 0), 9)]))

    def test_a_place_whose_number_is_refused(self):
        for term, outcome in [(NOUGHT, "nought"), ("rest x y", "nought"), (GREAT, "great"), (f"times x {GREAT}", "great")]:
            run = run_of(f"take a {term} as x\nsay 1")
            self.assertIsNone(run.asks())
            self.assertIsNone(run.asks())
            self.assertIs(run.over(), False)
            self.assertIsNone(run.paper())
            run.step(5)
            self.assertIs(run.over(), True)
            self.assertIsNone(run.asks())
            self.assertEqual(run.paper(), (("off", outcome), [], []))

    def test_a_run_that_is_over_asks_for_nothing(self):
        for text in ["off 1\ntake a 0 as x", f"say {GREAT}\ntake a 0 as x", f"say {NOUGHT}\ntake a 0 as x"]:
            run = run_of(text)
            run.step()
            self.assertIs(run.over(), True)
            self.assertIsNone(run.asks())
        run = run_of("take a 0 as x")
        run.step(1)
        self.assertIsNone(run.asks())

    def test_no_place_is_asked_for_twice(self):
        maker = Maker(233)
        for k in range(300):
            run, asked = Run(code_of(maker.dealing()[1])), []
            while not run.over():
                asked.append(run.asks())
                run.step(len(asked) % 5 - 2)
            places = [place for place in asked if place is not None]
            self.assertEqual(len(places), len(set(places)))


class Steps(unittest.TestCase):
    def many(self, text):
        run, many = run_of(text), 0
        while not run.over():
            run.step()
            many += 1
        return many

    def test_a_skip_and_a_go_are_steps(self):
        for text, many in [
            ("if 0\nend", 1), ("if 1\nend", 1), ("if 0\nsay 1\nend", 1), ("if 1\nsay 1\nend", 2),
            ("if 1\nsay 1\nelse\nsay 2\nend", 3), ("if 0\nsay 1\nelse\nsay 2\nend", 2),
            ("if 1\nelse\nsay 2\nend", 2), ("if 0\nelse\nsay 2\nend", 2),
            ("if 1\nsay 1\nelse\nsay 2\nend\nsay 3", 4), ("if 0\nsay 1\nelse\nsay 2\nend\nsay 3", 3),
            ("if 1\n" * 5 + "say 1" + "\nelse\nsay 2\nend" * 5, 11), ("if 1\n" * 5 + "say 1" + "\nend" * 5, 6),
        ]:
            self.assertEqual(self.many(text), many, text)

    def test_a_take_a_give_a_let_a_say_an_off_are_one_step_each(self):
        self.assertEqual(self.many("take a 0 as x\ngive a 0 1\nlet x 1\nsay x\noff 0\ntake a 0 as x"), 6)

    def test_which_rows_are_gone_through(self):
        text = "if x\nif y\nsay 11\nelse\nsay 10\nend\nsay 1\nelse\nif y\nsay 5\nelse\nsay 6\nend\nsay 0\nend\nsay 9"
        for x, y, said in [(1, 1, (11, 1, 9)), (-1, 0, (10, 1, 9)), (0, MOST, (5, 0, 9)), (0, 0, (6, 0, 9))]:
            self.assertEqual(walked(f"let x {x}\nlet y {y}\n{text}", [])[1], (("done", said), [], []))

    def test_takes_within_blocks(self):
        text = "take a 0 as x\nif x\ntake a 1 as y\nelse\ntake a 2 as y\nend\ntake a 1 as z\nsay y\nsay z"
        asked, paper = walked(text, [5, 6])
        self.assertEqual(asked, [("a", 0), None, ("a", 1), None, None, None, None])
        self.assertEqual(paper, (("done", (6, 6)), [(("a", 0), 5), (("a", 1), 6)], []))
        asked, paper = walked(text, [0, 6, 7])
        self.assertEqual(asked, [("a", 0), None, ("a", 2), ("a", 1), None, None])
        self.assertEqual(paper, (("done", (6, 7)), [(("a", 0), 0), (("a", 2), 6), (("a", 1), 7)], []))

    def test_asking_is_not_needed(self):
        text = "take a 0 as x\ngive a 0 1\ntake a 0 as y\ntake a 1 as z\nsay x\nsay y\nsay z"
        for often in range(4):
            run = run_of(text)
            for worth in (6, 0, 0, 8, 0, 0, 0):
                for k in range(often):
                    run.asks()
                    run.over()
                    run.paper()
                run.step(worth)
            self.assertIs(run.over(), True)
            self.assertEqual(run.paper(), (("done", (6, 1, 8)), [(("a", 0), 6), (("a", 1), 8)], [(("a", 0), 1)]))

    def test_asking_twice_tells_the_same(self):
        maker = Maker(377)
        for k in range(200):
            run = Run(code_of(maker.dealing()[1]))
            while not run.over():
                self.assertEqual([run.asks(), run.asks(), run.asks()], [run.asks()] * 3)
                self.assertIs(run.over(), False)
                run.step(k % 4)

    def test_a_worth_where_nothing_is_asked_is_not_looked_at(self):
        text = "take a 0 as x\ntake a 0 as y\ngive b 0 1\ntake b 0 as z\nif 1\nlet w 4\nelse\nend\nsay x\nsay y\nsay z\nsay w"
        for worth in (5, -MOST, None, "none"):
            run = run_of(text)
            run.step(6)
            while not run.over():
                self.assertIsNone(run.asks())
                run.step(worth)
            self.assertEqual(run.paper(), (("done", (6, 6, 1, 4)), [(("a", 0), 6)], [(("b", 0), 1)]))

    def test_a_step_of_a_run_that_is_over(self):
        for text in [
            "", "take a 0 as x\ngive a 0 1\nsay x", "take a 0 as x\noff 1\nsay 1", f"take a 0 as x\nsay {GREAT}\nsay 1",
            f"take a 0 as x\nsay {NOUGHT}\nsay 1", "say 1\noff 1\ntake a 0 as x", f"take a {NOUGHT} as x\ntake a 1 as x",
        ]:
            run = run_of(text)
            while not run.over():
                run.step(2)
            before = run.paper()
            for worth in (0, 1, 9):
                self.assertIsNone(run.step(worth))
                self.assertIs(run.over(), True)
                self.assertIsNone(run.asks())
                self.assertEqual(run.paper(), before)

    def test_runs_of_one_code_know_nothing_of_one_another(self):
        steps = code("take a 0 as x\nsay x\ngive b 0 x\nlet y 1\nsay y")
        one, other = Run(steps), Run(steps)
        for k in range(5):
            one.step(4)
            other.step(9)
        self.assertEqual(one.paper(), (("done", (4, 1)), [(("a", 0), 4)], [(("b", 0), 4)]))
        self.assertEqual(other.paper(), (("done", (9, 1)), [(("a", 0), 9)], [(("b", 0), 9)]))

    def test_the_code_stays(self):
        maker = Maker(610)
        for k in range(100):
            steps = code_of(maker.dealing()[1])
            before, run = copy.deepcopy(steps), Run(steps)
            while not run.over():
                run.asks()
                run.step(k % 3)
            self.assertEqual(steps, before)

    def test_what_becomes_of_the_code_changes_nothing(self):
        def emptied(steps):
            steps.clear()

        def others(steps):
            steps[:] = [("off", (1,))] * len(steps)

        def more(steps):
            steps.append(("say", (7,)))

        text = "take a 0 as x\nif x\nsay x\nelse\nsay 2\nend\ngive b 0 x"
        for change in (emptied, others, more):
            for ahead in range(5):
                steps = code(text)
                run = Run(steps)
                for k in range(ahead):
                    run.step(4)
                change(steps)
                self.assertIs(run.over(), False)
                for k in range(5 - ahead):
                    run.step(4)
                self.assertIs(run.over(), True)
                self.assertEqual(run.paper(), (("done", (4,)), [(("a", 0), 4)], [(("b", 0), 4)]))


class BrokenOff(unittest.TestCase):
    def broken(self, text, why, steps):
        """The run is over behind so many steps and not ahead of that; each place is answered by 3."""
        run = run_of(text)
        for k in range(steps):
            self.assertIs(run.over(), False, text)
            self.assertIsNone(run.paper(), text)
            run.step(3)
        self.assertIs(run.over(), True, text)
        self.assertEqual(run.paper(), (("off", why), [], []), text)

    def test_by_an_off_row(self):
        for worth in (1, -1, 2, MOST, -MOST):
            self.broken(f"off {worth}", "told", 1)
            self.broken(f"say 1\ngive a 0 1\noff {worth}\nsay 2", "told", 3)
        self.assertEqual(walked("off 0\nsay 1\noff minus 1 1", [])[1], (("done", (1,)), [], []))

    def test_in_each_step_that_has_a_term(self):
        for term, why in [(NOUGHT, "nought"), ("rest 5 x", "nought"), (GREAT, "great"), (f"minus -{MOST} 1", "great")]:
            for row in [
                f"take a {term} as x", f"give a {term} 1", f"give a 1 {term}", f"let x {term}", f"say {term}", f"off {term}",
                f"if {term}\nsay 1\nend", f"if {term}\nend", f"if {term}\nsay 1\nelse\nsay 2\nend", f"say times 0 {term}",
            ]:
                self.broken(row, why, 1)
                self.broken(f"say 1\ngive a 0 1\n{row}\nsay 2", why, 3)
                self.broken(f"if 1\ngive a 0 1\n{row}\nelse\nsay 2\nend", why, 3)
                self.broken(f"if 0\nelse\n{row}\nend", why, 2)

    def test_what_is_due_first(self):
        for first, second, why in [(NOUGHT, GREAT, "nought"), (GREAT, NOUGHT, "great")]:
            self.broken(f"give a {first} {second}", why, 1)
            self.broken(f"say plus {first} {second}", why, 1)
            self.broken(f"say {first}\nsay {second}", why, 1)
            self.broken(f"off {first}\noff 1", why, 1)
            self.broken(f"off 1\noff {first}", "told", 1)
            self.broken(f"take a {first} as x\nsay {second}", why, 1)
            self.broken(f"if {first}\nsay {second}\nelse\noff 1\nend", why, 1)
            self.broken(f"if 1\nsay {first}\nelse\nsay {second}\nend", why, 2)
            self.broken(f"if 0\nsay {second}\nelse\nsay {first}\nend", why, 2)
        self.broken(f"say over {GREAT} 0", "great", 1)
        self.broken(f"say times {MOST} {NOUGHT}", "nought", 1)

    def test_what_stands_in_rows_that_are_not_gone_through_breaks_nothing(self):
        for row in ["off 1", f"say {GREAT}", f"say {NOUGHT}", f"take a {NOUGHT} as x"]:
            self.assertEqual(walked(f"if 0\n{row}\nend\nsay 1", [])[1], (("done", (1,)), [], []))
            self.assertEqual(walked(f"if 1\nelse\n{row}\nend\nsay 1", [])[1], (("done", (1,)), [], []))

    def test_by_a_worth_with_which_it_was_answered(self):
        for worth, why in [(0, "nought"), (MOST, "great"), (7, "told")]:
            run = run_of(f"take a 0 as x\nsay over 1 x\nsay plus x 1\noff same x 7")
            run.step(worth)
            while not run.over():
                run.step()
            self.assertEqual(run.paper(), (("off", why), [(("a", 0), worth)], []))


class MadeUp(unittest.TestCase):
    def test_runs_against_an_own_doing(self):
        maker, seen = Maker(987), {}
        for k in range(1500):
            text, rows = maker.dealing(maker.one_of([1, 3, 5, 8, 13, 40]))

            def answer(place):
                return (place[1] * 7 + len(place[0]) * k) % 6 - 1

            run = Run(code_of(rows))
            while not run.over():
                place = run.asks()
                run.step(99 if place is None else answer(place))
            self.assertEqual(run.paper(), own_paper(text, answer), text)
            seen[run.paper()[0][:2] if run.paper()[0][0] == "off" else "done"] = True
        self.assertEqual(len(seen), 4)


if __name__ == "__main__":
    unittest.main()
