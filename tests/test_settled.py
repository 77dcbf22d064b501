"""[22], and [2] as far as it speaks of a desk: finishing, what is settled, the table, the makes kept, folding."""

import copy
import unittest

from forerun.desk import Desk
from forerun.ways import Highest, Turning, Way
from making import WAYS, Maker, code, desk_of, moved, own_papers

TOP = 10 ** 29
A, B, C = ("a", 0), ("a", 1), ("b", -1)
TABLE = [(A, 7), (C, -2)]
COUNT = "take a 0 as x\ngive a 0 plus x 1\nsay x"
SWAP = "take a 0 as x\ntake a 1 as y\ngive a 0 y\ngive a 1 x"


def state(desk):
    return (desk.settled(), desk.papers(), desk.table(), desk.kept())


def in_turn(desk, hands, behind):
    """What the hands tell, moved in turn from hand 0 on till all ranks up to this one are settled."""
    told = []
    while desk.settled() < behind:
        told.append(desk.move(len(told) % hands))
    return told


class Finish(unittest.TestCase):
    def test_what_the_hands_told(self):
        desk = desk_of(["give a 0 3", "take a 0 as x"], TABLE, 2)
        self.assertEqual(
            desk.finish(),
            [
                ("take", 0, 0), ("take", 1, 1), ("step", 0, 0), ("read", 1, 1, A, 7), ("lay", 0, 0), ("lay", 1, 1),
                ("settle", 0, 0), ("again", 1, 1, A, 7, 3), ("take", 0, 1), ("rest", 1), ("read", 0, 1, A, 3),
                ("rest", 1), ("lay", 0, 1), ("settle", 1, 1),
            ],
        )
        papers = [(("done", ()), [], [(A, 3)]), (("done", ()), [(A, 3)], [])]
        self.assertEqual(state(desk), (2, papers, [(A, 3), (C, -2)], 1))

    def test_nothing_where_all_are_settled(self):
        for hands in (1, 2, 8):
            desk = desk_of([], TABLE, hands)
            self.assertEqual((desk.finish(), desk.finish()), ([], []))
            desk = desk_of([COUNT, "", "off 1"], TABLE, hands)
            desk.finish()
            before = state(desk)
            self.assertEqual((desk.finish(), desk.finish()), ([], []))
            self.assertEqual(state(desk), before)

    def test_nobody_moves_where_all_are_settled(self):
        way = Turning()
        desk = desk_of(["say 1"], TABLE, 2, way)
        desk.finish()
        desk.finish()
        for k in range(3):
            desk.add(code("say 2"))
        self.assertEqual(desk.move(1), ("take", 1, 2))

    def test_from_hand_0_on_whoever_moved_last(self):
        desk = desk_of(["say 1", "say 2"], TABLE, 3)
        moved(desk, [0])
        self.assertEqual(
            desk.finish(),
            [
                ("step", 0, 0), ("take", 1, 1), ("rest", 2), ("lay", 0, 0), ("step", 1, 1), ("settle", 2, 0),
                ("rest", 0), ("lay", 1, 1), ("settle", 2, 1),
            ],
        )
        desk.add([])
        self.assertEqual(desk.finish(), [("take", 0, 2), ("rest", 1), ("rest", 2), ("lay", 0, 2), ("settle", 1, 2)])

    def test_it_ends_with_the_last_settling(self):
        maker = Maker(1346269)
        for k in range(60):
            desk = desk_of([maker.busy() for each in range(1 + k % 6)], maker.table(), k % 8 + 1, WAYS[k % 3][0]())
            self.assertEqual(desk.finish()[-1][::2], ("settle", k % 6))

    def test_as_the_hands_moved_in_turn(self):
        maker = Maker(2178309)
        for k in range(72):
            texts, table, hands, kind = [maker.busy() for each in range(7)], maker.table(), k % 8 + 1, WAYS[k % 3][0]
            one, other = desk_of(texts, table, hands, kind()), desk_of(texts, table, hands, kind())
            ahead = [maker.chance.randrange(hands) for each in range(maker.chance.randrange(40))]
            self.assertEqual(moved(one, ahead), moved(other, ahead))
            self.assertEqual(one.finish(), in_turn(other, hands, 7))
            self.assertEqual(state(one), state(other))

    def test_many_that_all_meet(self):
        for kind, choose in WAYS:
            for hands in (1, 8):
                desk = desk_of([COUNT] * 120, TABLE, hands, kind())
                desk.finish()
                self.assertEqual([paper[0] for paper in desk.papers()], [("done", (7 + k,)) for k in range(120)])
                self.assertEqual((desk.settled(), desk.table()), (120, [(A, 127), (C, -2)]))


class Settled(unittest.TestCase):
    def test_at_each_moment(self):
        desk = desk_of(["give a 0 3\nsay 1", "take a 0 as x\ngive a 1 x"], TABLE, 2)
        papers = [(("done", (1,)), [], [(A, 3)]), (("done", ()), [(A, 3)], [(B, 3)])]
        tables = [TABLE, [(A, 3), (C, -2)], [(A, 3), (B, 3), (C, -2)]]
        for hand, told, settled, kept in [
            (0, ("take", 0, 0), 0, 0), (1, ("take", 1, 1), 0, 0), (0, ("step", 0, 0), 0, 0), (0, ("step", 0, 0), 0, 0),
            (0, ("lay", 0, 0), 0, 1), (1, ("read", 1, 1, A, 3), 0, 1), (1, ("step", 1, 1), 0, 1),
            (1, ("lay", 1, 1), 0, 2), (1, ("settle", 1, 0), 1, 2), (0, ("settle", 0, 1), 2, 2), (0, ("rest", 0), 2, 2),
        ]:
            self.assertEqual(desk.move(hand), told)
            self.assertEqual(state(desk), (settled, papers[:settled], tables[settled], kept))
        desk.add([])
        self.assertEqual(state(desk), (2, papers, tables[2], 2))

    def test_the_table_does_not_show_what_is_not_settled(self):
        desk = desk_of(["say 1", "give a 0 3"], TABLE, 2)
        moved(desk, [0, 1, 1, 1])
        self.assertEqual(state(desk), (0, [], TABLE, 1))
        desk.finish()
        self.assertEqual(desk.table(), [(A, 3), (C, -2)])

    def test_ahead_of_any_code(self):
        for first in (0, 3, TOP):
            self.assertEqual(state(Desk(TABLE, 1, Way(), first)), (first, [], TABLE, 0))
            self.assertEqual(state(Desk([], 8, Highest(), first)), (first, [], [], 0))

    def test_papers_in_the_order_of_ranks(self):
        maker = Maker(3524578)
        for k in range(40):
            texts, table = [maker.busy() for each in range(8)], maker.table()
            desk = desk_of(texts, table, k % 8 + 1, Highest(), 5)
            papers, tables = own_papers(texts, table)
            desk.finish()
            self.assertEqual((desk.papers(), desk.table()), (papers, tables[-1]))

    def test_asking_changes_nothing(self):
        for kind, choose in WAYS:
            one, other = desk_of([COUNT, SWAP] * 3, TABLE, 3, kind()), desk_of([COUNT, SWAP] * 3, TABLE, 3, kind())
            for k in range(150):
                self.assertEqual(one.move(k * k % 5 % 3), other.move(k * k % 5 % 3))
                self.assertEqual(state(one), state(one))
            self.assertEqual(state(one), state(other))

    def test_kinds_told(self):
        desk = desk_of([COUNT], TABLE, 1)
        told = desk.finish()
        self.assertEqual([type(told)] + [type(row) for row in told], [list] + [tuple] * 6)
        self.assertEqual([type(part) for part in told[1]], [str, int, int, tuple, int])
        self.assertEqual([type(part) for part in state(desk)], [int, list, list, int])
        paper = desk.papers()[0]
        self.assertEqual([type(part) for part in (paper, *paper)], [tuple, tuple, list, list])
        self.assertIsNone(desk.fold())


class Fold(unittest.TestCase):
    def test_what_is_told_afterwards_stays_the_same(self):
        maker = Maker(5702887)
        for k in range(48):
            texts, table, hands, kind = [maker.busy() for each in range(9)], maker.table(), k % 8 + 1, WAYS[k % 3][0]
            one, other, first = Desk(table, hands, kind(), k % 3), Desk(table, hands, kind(), k % 3), k % 3
            for text in texts:
                self.assertEqual(one.add(code(text)), other.add(code(text)))
                for each in range(maker.chance.randrange(30)):
                    hand = maker.chance.randrange(hands)
                    self.assertEqual(one.move(hand), other.move(hand))
                    self.assertEqual(state(one)[:3], state(other)[:3])
                    self.assertLessEqual(one.kept(), other.kept())
                    for often in range(maker.one_of([0, 0, 1, 2])):
                        one.fold()
            self.assertEqual(one.finish(), other.finish())
            one.fold()
            self.assertEqual(state(one)[:3], state(other)[:3])
            self.assertEqual((one.kept(), one.settled()), (0, first + 9))

    def test_the_makes_of_settled_ranks_are_gone_and_the_others_stay(self):
        texts = ["give a 0 1\ngive a 1 1", "give a 0 0", "say 1", "give b -1 4\ngive b 0 4\ngive b 1 4"]
        desk = desk_of(texts, TABLE, 4)
        moved(desk, [0, 1, 2, 3])
        moved(desk, [0] * 3 + [1] * 2 + [3] * 4)
        self.assertEqual(desk.kept(), 6)
        desk.fold()
        self.assertEqual((desk.kept(), desk.table()), (6, TABLE))
        self.assertEqual(desk.move(0), ("settle", 0, 0))
        desk.fold()
        self.assertEqual((desk.kept(), desk.table()), (4, [(A, 1), (B, 1), (C, -2)]))
        self.assertEqual(desk.move(0), ("settle", 0, 1))
        desk.fold()
        self.assertEqual((desk.kept(), desk.table()), (3, [(B, 1), (C, -2)]))
        desk.finish()
        self.assertEqual(desk.kept(), 3)
        desk.fold()
        self.assertEqual((desk.kept(), desk.table()), (0, [(B, 1), (C, 4), (("b", 0), 4), (("b", 1), 4)]))

    def test_again_and_with_codes_added_behind_it(self):
        desk = desk_of([], TABLE, 2, Highest(), 6)
        for k in range(5):
            desk.fold()
            desk.fold()
            self.assertEqual((desk.add(code(COUNT)), desk.kept()), (6 + k, 0))
            desk.fold()
            desk.finish()
            self.assertEqual((desk.kept(), desk.table()), (1, [(A, 8 + k), (C, -2)]))
        desk.fold()
        self.assertEqual((desk.settled(), desk.kept(), len(desk.papers())), (11, 0, 5))

    def test_amid_a_run(self):
        desk = desk_of(["give a 0 3\ngive a 1 3", SWAP], TABLE, 2)
        moved(desk, [0, 0, 0, 0, 0, 0, 0])
        desk.fold()
        told = [("read", 0, 1, B, 3), ("step", 0, 1), ("step", 0, 1), ("lay", 0, 1), ("settle", 0, 1)]
        self.assertEqual(moved(desk, [0] * 5), told)

    def test_where_a_rank_that_was_run_ahead_goes_again(self):
        desk = desk_of(["give a 0 3", COUNT], TABLE, 1, Highest())
        told = ["take", "read", "step", "step", "lay", "take", "step", "lay", "settle"]
        self.assertEqual([row[0] for row in moved(desk, [0] * 9)], told)
        desk.fold()
        self.assertEqual((desk.kept(), desk.move(0)), (1, ("again", 0, 1, A, 7, 3)))
        desk.fold()
        self.assertEqual((desk.kept(), moved(desk, [0, 0])), (1, [("take", 0, 1), ("read", 0, 1, A, 3)]))
        desk.finish()
        self.assertEqual(desk.table(), [(A, 4), (C, -2)])


class Own(unittest.TestCase):
    """[2]: nothing handed in is changed, and every list told is the asker's own."""

    def test_what_is_handed_in_stays(self):
        maker = Maker(9227465)
        for k in range(40):
            table, codes = maker.table(), [code(maker.busy()) for each in range(6)]
            before = (copy.deepcopy(table), copy.deepcopy(codes))
            desk = Desk(table, k % 8 + 1, WAYS[k % 3][0]())
            for each in codes:
                desk.add(each)
            desk.finish()
            desk.fold()
            desk.table().clear()
            self.assertEqual((table, codes), before)

    def test_what_becomes_of_table_and_codes_changes_nothing(self):
        table, steps = list(TABLE), code(COUNT)
        desk = Desk(table, 2, Way())
        desk.add(steps)
        desk.add(steps)
        table[0] = (A, 99)
        table.append((("z", 0), 1))
        moved(desk, [0, 0])
        steps.reverse()
        moved(desk, [1])
        steps.clear()
        desk.finish()
        self.assertEqual(desk.papers(), [(("done", (7,)), [(A, 7)], [(A, 8)]), (("done", (8,)), [(A, 8)], [(A, 9)])])
        self.assertEqual(desk.table(), [(A, 9), (C, -2)])

    def test_no_two_lists_told_are_one(self):
        desk = desk_of([COUNT, COUNT, "off 1", ""], TABLE, 2)
        told = [desk.finish(), desk.finish(), desk.table(), desk.table()]
        for k in range(2):
            papers = desk.papers()
            told.append(papers)
            told.extend(part for paper in papers for part in paper[1:])
        self.assertEqual(len({id(one) for one in told}), len(told))

    def test_what_becomes_of_lists_told_changes_nothing(self):
        for folds in (False, True):
            desk = desk_of([COUNT, COUNT, "take a 1 as x\noff 1"], TABLE, 2)
            rows = desk.finish()
            if folds:
                desk.fold()
            expected = copy.deepcopy(state(desk))
            for one in [rows, desk.table(), desk.papers()] + [part for paper in desk.papers() for part in paper[1:]]:
                one.append((A, 1))
                one.reverse()
            for paper in desk.papers():
                paper[1].clear()
                paper[2].clear()
            self.assertEqual(state(desk), expected)
            desk.add(code("take a 0 as x\nsay x"))
            desk.finish()
            self.assertEqual(desk.papers()[-1][0], ("done", (9,)))

    def test_nothing_done_later_changes_lists_told(self):
        desk = desk_of([COUNT, COUNT], TABLE, 2)
        rows = desk.finish()
        told = (rows, desk.papers(), desk.table())
        before = copy.deepcopy(told)
        desk.add(code(SWAP))
        desk.finish()
        desk.fold()
        desk.add(code("give a 0 0"))
        desk.finish()
        self.assertEqual(told, before)

    def test_two_desks_are_apart(self):
        steps = code(COUNT)
        one, other = Desk(TABLE, 2, Way()), Desk(TABLE, 2, Way())
        one.add(steps)
        one.finish()
        self.assertEqual(state(other), (0, [], TABLE, 0))
        self.assertEqual((other.add(steps), other.finish()), (0, desk_of([COUNT], TABLE, 2).finish()))


if __name__ == "__main__":
    unittest.main()
