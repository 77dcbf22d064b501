"""[13], and [2] as far as it speaks of it: dealings done alone and one by one."""

import copy
import unittest

from forerun.plain import alone, one_by_one
from forerun.reader import read
from making import Maker, own_alone

MOST = 10 ** 30
NOUGHT = "over 1 0"
GREAT = f"plus {MOST} 1"
TABLE = [(("a", -MOST), 3), (("a", -1), -8), (("a", 0), 7), (("a", 1), MOST), (("ab", 0), 5), (("b", 0), -2)]

TOLD_OFF, WAS_GREAT, WAS_NOUGHT = ("off", "told"), ("off", "great"), ("off", "nought")


class Alone(unittest.TestCase):
    def done(self, text, said, table=TABLE, behind=TABLE):
        self.assertEqual(alone(read(text), table), (("done", said), behind), text)

    def broken(self, text, outcome, table=TABLE):
        self.assertEqual(alone(read(text), table), (outcome, table), text)

    def test_no_rows(self):
        self.done("", ())
        self.done("", (), [], [])

    def test_say(self):
        self.done("say 5", (5,))
        self.done("say 5\nsay -3\nsay 5\nsay plus 1 2", (5, -3, 5, 3))
        self.done(f"say {MOST}\nsay -{MOST}", (MOST, -MOST))

    def test_let(self):
        self.done("let x 5\nsay x", (5,))
        self.done("let x 5\nlet y plus x 1\nlet x 2\nsay x\nsay y", (2, 6))
        self.done("let x 5\nlet x times x x\nlet x minus x 1\nsay x", (24,))

    def test_slots_that_were_never_filled(self):
        self.done("say x", (0,))
        self.done("say plus x 3\nlet y z\nsay y", (3, 0))
        self.done("take a x as y\nsay y", (7,))
        self.done("give q x y", ())
        self.done("off x\nsay 1", (1,))
        self.done("if x\nsay 1\nelse\nsay 2\nend", (2,))
        self.broken("say over 1 x", WAS_NOUGHT)

    def test_a_slot_is_no_shelf(self):
        self.done("let a 9\ntake a 0 as b\nsay a\nsay b", (9, 7))
        self.done("take a 0 as a\nsay a\ntake a 0 as b\nsay b", (7, 7))

    def test_take(self):
        for (shelf, number), worth in TABLE:
            self.done(f"take {shelf} {number} as x\nsay x", (worth,))
        self.done("take a 2 as x\nsay x\ntake b 1 as x\nsay x\ntake abc 0 as x\nsay x", (0, 0, 0))
        self.done("take a 0 as x\nsay x", (0,), [], [])

    def test_take_fills_the_slot_anew(self):
        self.done("let x 5\ntake a 0 as x\nsay x", (7,))
        self.done("let x 5\ntake q 0 as x\nsay x", (0,))
        self.done("take a 0 as x\ntake b 0 as x\nsay x", (-2,))
        self.done("take a 0 as x\ntake a 0 as y\nlet x 1\nsay x\nsay y", (1, 7))

    def test_give(self):
        self.done("give c 1 5", (), TABLE, TABLE + [(("c", 1), 5)])
        self.done("give a 0 5", (), [(("a", 0), 7)], [(("a", 0), 5)])
        self.done("give a 0 0", (), [(("a", 0), 7)], [])
        self.done("give a 1 0", (), [(("a", 0), 7)], [(("a", 0), 7)])
        self.done("give a 1 5\ngive a -1 6", (), [(("a", 0), 7)], [(("a", -1), 6), (("a", 0), 7), (("a", 1), 5)])
        self.done("give a 1 5\ngive a 1 6\ngive b 1 2\ngive b 1 0", (), [], [(("a", 1), 6)])
        self.done(f"give a {MOST} -{MOST}", (), [], [(("a", MOST), -MOST)])

    def test_take_behind_give(self):
        one = [(("a", 0), 7)]
        self.done("give a 0 5\ntake a 0 as x\nsay x", (5,), one, [(("a", 0), 5)])
        self.done("give a 0 5\ngive a 0 6\ntake a 0 as x\nsay x", (6,), one, [(("a", 0), 6)])
        self.done("give a 0 0\ntake a 0 as x\nsay x", (0,), one, [])
        self.done("give a 0 5\ngive a 0 0\ntake a 0 as x\nsay x", (0,), one, [])
        self.done("give a 0 0\ngive a 0 5\ntake a 0 as x\nsay x", (5,), one, [(("a", 0), 5)])
        self.done("give a 1 5\ntake a 0 as x\nsay x", (7,), one, one + [(("a", 1), 5)])
        self.done("give b 0 5\ntake a 0 as x\nsay x", (7,), one, one + [(("b", 0), 5)])
        self.done("take a 0 as x\ngive a 0 5\nsay x\ntake a 0 as x\nsay x", (7, 5), one, [(("a", 0), 5)])

    def test_give_what_stands_already(self):
        self.done("give a 0 7\ntake a 0 as x\nsay x", (7,))

    def test_places_whose_number_is_reckoned(self):
        self.done("take a minus 3 3 as x\nsay x", (7,))
        self.done("let x 1\ntake a minus 0 x as x\nsay x\ntake a plus x 8 as x\nsay x", (-8, 7))
        self.done("let x 2\ngive a times x x plus x 1\ntake a 4 as y\nsay y", (3,), [], [(("a", 4), 3)])
        self.done("take a 0 as x\ntake b minus x 7 as x\ngive c x x", (), TABLE, TABLE + [(("c", -2), -2)])
        self.done("give a 2 1\ntake a plus 1 1 as x\nsay x\ngive a x 5", (1,), [], [(("a", 1), 5), (("a", 2), 1)])

    def test_off(self):
        for worth in (1, -1, 2, MOST, -MOST):
            self.broken(f"say 1\noff {worth}\nsay 2", TOLD_OFF)
        self.done("say 1\noff 0\nsay 2", (1, 2))
        self.done("off minus 2 2\nsay 1", (1,))
        self.broken("let x 3\noff under x 4", TOLD_OFF)

    def test_if(self):
        for worth in (1, -1, 2, MOST, -MOST):
            self.done(f"if {worth}\nsay 1\nelse\nsay 2\nend\nsay 3", (1, 3))
            self.done(f"if {worth}\nsay 1\nend\nsay 3", (1, 3))
            self.done(f"if {worth}\nelse\nsay 2\nend\nsay 3", (3,))
        self.done("if 0\nsay 1\nelse\nsay 2\nend\nsay 3", (2, 3))
        self.done("if 0\nsay 1\nend\nsay 3", (3,))
        self.done("if 0\nelse\nsay 2\nend\nsay 3", (2, 3))
        self.done("if 0\nend\nif 1\nend", ())

    def test_an_if_is_reckoned_once(self):
        self.done("let x 1\nif x\nlet x 0\nsay 1\nelse\nsay 2\nend\nsay x", (1, 0))
        self.done("if x\nsay 1\nelse\nlet x 1\nsay 2\nend\nsay x", (2, 1))

    def test_blocks_in_blocks(self):
        text = "if x\nif y\nsay 11\nelse\nsay 10\nend\nsay 1\nelse\nif y\nsay 5\nelse\nsay 6\nend\nsay 0\nend\nsay 9"
        self.done(f"let x 1\nlet y 1\n{text}", (11, 1, 9))
        self.done(f"let x 1\nlet y 0\n{text}", (10, 1, 9))
        self.done(f"let x 0\nlet y 1\n{text}", (5, 0, 9))
        self.done(f"let x 0\nlet y 0\n{text}", (6, 0, 9))
        deep = ["if 1", "say 1"] * 5 + ["end", "say 2"] * 5
        self.done("\n".join(deep), (1,) * 5 + (2,) * 5)

    def test_slots_within_and_behind_blocks(self):
        self.done("let x 5\nif 1\nsay x\nlet x 6\nlet y 7\nend\nsay x\nsay y", (5, 6, 7))
        self.done("let x 5\nif 0\nelse\nlet x 6\nif 1\nlet y x\nend\nend\nsay x\nsay y", (6, 6))
        self.done("if 1\ntake a 0 as x\nend\nif 1\nsay x\nend", (7,))
        self.done("if 0\nlet x 1\nend\nsay x", (0,))

    def test_gifts_within_blocks(self):
        self.done("if 1\ngive a 0 5\nend\ntake a 0 as x\nsay x", (5,), [], [(("a", 0), 5)])
        self.done("if 0\ngive a 0 5\nelse\ngive a 0 6\nend\ntake a 0 as x\nsay x", (6,), [], [(("a", 0), 6)])

    def test_broken_off_within_blocks(self):
        for row, outcome in [("off 1", TOLD_OFF), (f"say {GREAT}", WAS_GREAT), (f"say {NOUGHT}", WAS_NOUGHT)]:
            for text in [
                f"if 1\n{row}\nend\nsay 1", f"if 0\nelse\n{row}\nend\nsay 1", f"if 1\nif 0\nelse\n{row}\nend\nend\nsay 1",
                "if 1\n" * 5 + row + "\nend" * 5 + "\ngive a 0 1", f"give a 0 1\nif 1\ngive a 1 1\n{row}\nend",
            ]:
                self.broken(text, outcome)
            self.done(f"if 0\n{row}\nend\nsay 1", (1,))
            self.done(f"if 1\nelse\n{row}\nend\nsay 1", (1,))

    def test_broken_off_in_each_row_and_each_term(self):
        for term, outcome in [(NOUGHT, WAS_NOUGHT), (GREAT, WAS_GREAT), ("rest 5 x", WAS_NOUGHT)]:
            for row in [
                f"take a {term} as x", f"give a {term} 1", f"give a 1 {term}", f"let x {term}", f"say {term}",
                f"off {term}", f"if {term}\nsay 1\nend", f"if {term}\nelse\nsay 1\nend",
                f"say times 0 {term}", f"say plus {term} 1", f"say minus 1 {term}",
            ]:
                self.broken(row, outcome)
                self.broken(f"say 1\ngive a 0 1\ngive q 5 5\n{row}\nsay 2", outcome)

    def test_great_at_its_edges(self):
        self.done(f"say plus {MOST - 1} 1\nsay minus {1 - MOST} 1", (MOST, -MOST))
        self.done(f"say times {10 ** 15} {10 ** 15}\nsay times -{10 ** 15} {10 ** 15}", (MOST, -MOST))
        for term in [f"minus -{MOST} 1", f"times {10 ** 15} {10 ** 15 + 1}", f"times -{MOST} 2", f"minus 1 -{MOST}"]:
            self.broken(f"say {term}", WAS_GREAT)

    def test_what_is_due_first(self):
        for first, second, outcome in [(NOUGHT, GREAT, WAS_NOUGHT), (GREAT, NOUGHT, WAS_GREAT)]:
            self.broken(f"give a {first} {second}", outcome)
            self.broken(f"say plus {first} {second}", outcome)
            self.broken(f"say {first}\nsay {second}", outcome)
            self.broken(f"say {first}\noff 1", outcome)
            self.broken(f"off 1\nsay {first}", TOLD_OFF)
            self.broken(f"off {first}\noff 1", outcome)
            self.broken(f"if {first}\nsay {second}\nelse\noff 1\nend", outcome)
            self.broken(f"if 1\nsay {first}\nelse\nsay {second}\nend", outcome)
            self.broken(f"if 0\nsay {second}\nelse\nsay {first}\nend", outcome)
            self.broken(f"take a {first} as x\ngive a 1 {second}", outcome)
        self.broken(f"say over {GREAT} 0", WAS_GREAT)
        self.broken(f"say times {MOST} {NOUGHT}", WAS_NOUGHT)

    def test_then_the_table_stays(self):
        for row in ["off 1", f"say {GREAT}", f"say {NOUGHT}"]:
            rows, table = read(f"give a 0 1\ngive a 1 0\ngive z 0 4\n{row}"), copy.deepcopy(TABLE)
            told = alone(rows, table)[1]
            self.assertEqual((told, table), (TABLE, TABLE))
            told.clear()
            self.assertEqual(table, TABLE)
            self.assertEqual(alone(rows, [])[1], [])

    def test_kinds_told(self):
        for text in ["", "say 1\nsay under 1 2\nsay same 1 1", "off 1", f"say {GREAT}", f"say {NOUGHT}"]:
            told = alone(read(text), TABLE)
            self.assertEqual([type(part) for part in (told, told[0], told[1])], [tuple, tuple, list])
            self.assertEqual(len(told[0]), 2)
            self.assertIs(type(told[0][1]), tuple if told[0][0] == "done" else str)
            if told[0][0] == "done":
                self.assertEqual({type(worth) for worth in told[0][1]} - {int}, set())
        behind = alone(read("give a 0 same 1 1"), [])[1]
        self.assertEqual([type(part) for part in (behind[0], behind[0][0], behind[0][1])], [tuple, tuple, int])

    def test_rows_and_table_stay(self):
        rows = read("give a 0 1\nif 1\ngive z 0 4\nelse\nsay 1\nend\nlet x 1\nsay x")
        table = copy.deepcopy(TABLE)
        before = copy.deepcopy(rows)
        first, second = alone(rows, table), alone(rows, table)
        self.assertEqual((rows, table, first), (before, TABLE, second))
        first[1].clear()
        self.assertEqual((rows, table, second), (before, TABLE, alone(rows, table)))
        expected = copy.deepcopy(second)
        rows.clear()
        table.clear()
        self.assertEqual(second, expected)

    def test_a_table_that_did_not_change_is_told_as_another_list(self):
        for text in ["", "say 1", "off 1", "give a 0 7"]:
            table = copy.deepcopy(TABLE)
            told = alone(read(text), table)[1]
            told.append((("z", 1), 1))
            self.assertEqual(table, TABLE)

    def test_a_dealing_begins_with_no_slots_whatever_was_done_ahead(self):
        self.done("let x 5\nsay x", (5,))
        self.done("say x", (0,))

    def test_made_up_dealings(self):
        maker, seen = Maker(21), {}
        for k in range(1500):
            text, rows = maker.dealing(maker.one_of([1, 3, 5, 8, 13, 40]))
            table = maker.table()
            told = alone(rows, table)
            self.assertEqual(told, own_alone(text, table), text)
            seen[told[0] if told[0][0] == "off" else "done"] = True
        self.assertEqual(len(seen), 4)


class OneByOne(unittest.TestCase):
    def test_none(self):
        self.assertEqual(one_by_one([], TABLE), ([], TABLE))
        self.assertEqual(one_by_one([], []), ([], []))
        self.assertEqual(one_by_one([[], []], TABLE), ([("done", ()), ("done", ())], TABLE))

    def test_each_on_the_table_behind_those_ahead(self):
        more = read("take a 0 as x\nsay x\ngive a 0 plus x 1")
        self.assertEqual(one_by_one([more], []), ([("done", (0,))], [(("a", 0), 1)]))
        self.assertEqual(
            one_by_one([more, more, more], [(("a", 0), 7)]), ([("done", (7,)), ("done", (8,)), ("done", (9,))], [(("a", 0), 10)])
        )

    def test_in_their_order(self):
        put, twice = read("give a 0 5"), read("take a 0 as x\ngive a 0 times 2 x\nsay x")
        self.assertEqual(one_by_one([put, twice], []), ([("done", ()), ("done", (5,))], [(("a", 0), 10)]))
        self.assertEqual(one_by_one([twice, put], []), ([("done", (0,)), ("done", ())], [(("a", 0), 5)]))

    def test_behind_one_that_was_broken_off(self):
        tells = read("take a 0 as x\nsay x")
        for row, outcome in [("off 1", TOLD_OFF), (f"say {GREAT}", WAS_GREAT), (f"say {NOUGHT}", WAS_NOUGHT)]:
            breaks = read(f"give a 0 9\nlet x 3\nsay 4\n{row}")
            self.assertEqual(
                one_by_one([tells, breaks, read("give a 0 8\nsay x"), breaks, tells], TABLE),
                (
                    [("done", (7,)), outcome, ("done", (0,)), outcome, ("done", (8,))],
                    [(place, 8 if place == ("a", 0) else worth) for place, worth in TABLE],
                ),
            )
            self.assertEqual(one_by_one([breaks], TABLE), ([outcome], TABLE))

    def test_slots_and_sayings_are_not_those_of_the_dealing_ahead(self):
        self.assertEqual(
            one_by_one([read("let x 5\nsay x"), read("say x"), read("")], []),
            ([("done", (5,)), ("done", (0,)), ("done", ())], []),
        )

    def test_a_gift_of_0(self):
        told = one_by_one([read("give a 0 0"), read("take a 0 as x\nsay x\ngive a 0 x")], [(("a", 0), 7)])
        self.assertEqual(told, ([("done", ()), ("done", (0,))], []))

    def test_kinds_told(self):
        told = one_by_one([read("say 1"), read("off 1")], TABLE)
        self.assertEqual([type(part) for part in (told, told[0], told[1])], [tuple, list, list])
        self.assertEqual([type(outcome) for outcome in told[0]], [tuple, tuple])

    def test_what_is_handed_in_stays(self):
        table = copy.deepcopy(TABLE)
        dealings = [read("give a 0 1\nif 1\nsay 1\nend"), read("off 1"), read("")]
        before = copy.deepcopy(dealings)
        first, second = one_by_one(dealings, table), one_by_one(dealings, table)
        self.assertEqual((dealings, table, first), (before, TABLE, second))
        first[0].clear()
        first[1].clear()
        self.assertEqual((dealings, table, second), (before, TABLE, one_by_one(dealings, table)))
        for some in ([], [read("off 1")], [read("")]):
            one_by_one(some, table)[1].clear()
            self.assertEqual(table, TABLE)
        expected = copy.deepcopy(second)
        dealings.clear()
        table.clear()
        self.assertEqual(second, expected)

    def test_made_up_dealings(self):
        maker = Maker(34)
        for k in range(60):
            made = [maker.dealing(maker.one_of([2, 4, 7, 12])) for each in range(20)]
            table = maker.table()
            outcomes, behind = [], table
            for text, rows in made:
                outcome, behind = own_alone(text, behind)
                outcomes.append(outcome)
            self.assertEqual(one_by_one([rows for text, rows in made], table), (outcomes, behind))

    def test_three_hundred_dealings(self):
        more = read("take a 0 as x\nsay x\ngive a 0 plus x 1\noff same x 250")
        outcomes, behind = one_by_one([more] * 300, [])
        self.assertEqual(outcomes, [("done", (k,)) for k in range(250)] + [TOLD_OFF] * 50)
        self.assertEqual(behind, [(("a", 0), 250)])


if __name__ == "__main__":
    unittest.main()
