"""[1] and [3], as far as they speak of a desk: whatever the hands do, what is settled is what comes of one by one."""

import random
import unittest

from forerun.desk import Desk
from forerun.plain import one_by_one
from forerun.reader import read
from making import WAYS, Maker, OwnDesk, code, own_papers

TOP = 10 ** 29


class Course:
    """A desk and an own one beside it, moved alike, with all that was told."""

    def __init__(self, case, maker, texts, hands, kind):
        self.case, self.texts, self.hands, self.told = case, texts, hands, []
        self.chance, table = maker.chance, maker.table()
        self.papers, self.tables = own_papers(texts, table)
        self.first = maker.one_of([0, 0, 1, 40, TOP - 20])
        self.desk = Desk(table, hands, WAYS[kind][0](), self.first)
        self.own = OwnDesk(table, hands, WAYS[kind][1], self.first)
        self.added = 0

    def add(self):
        text = self.texts[self.added]
        self.case.assertEqual(self.desk.add(code(text)), self.first + self.added)
        self.own.add(text)
        self.added += 1

    def move(self, hand):
        told = self.desk.move(hand)
        self.case.assertEqual(told, self.own.move(hand))
        self.told.append(told)

    def fold(self):
        self.desk.fold()
        self.own.fold()

    def hold(self):
        """What is settled, held against what comes of doing the dealings one by one."""
        many = self.desk.settled() - self.first
        self.case.assertEqual(many, len(self.own.papers))
        self.case.assertEqual(self.desk.papers(), self.papers[:many])
        self.case.assertEqual(self.desk.table(), self.tables[many])
        self.case.assertEqual(self.desk.kept(), self.own.makes.kept())

    def go(self, folds):
        """Moves by chance, codes added by chance between them; then the hands in turn."""
        while self.added < len(self.texts) or self.chance.randrange(30):
            drawn = self.chance.randrange(10)
            if drawn < 4 and self.added < len(self.texts):
                self.add()
            elif drawn == 4 and folds:
                self.fold()
            else:
                self.move(self.chance.randrange(self.hands))
            self.hold()
        told = self.desk.finish()
        self.case.assertEqual(told, self.own.finish())
        self.told.extend(told)
        self.hold()
        self.case.assertEqual(self.desk.settled(), self.first + len(self.texts))


class Ahead(unittest.TestCase):
    def held_runs(self, told):
        """Each again is for a worth that the run read, and that is another now; nothing else makes a rank wait anew."""
        reads, waits = {}, {}
        for row in told:
            rank = row[2] if len(row) > 2 else None
            if row[0] == "take":
                self.assertTrue(waits.get(rank, True), told)
                waits[rank], reads[rank] = False, []
            elif row[0] == "read":
                reads[rank].append(row[3:])
            elif row[0] == "again":
                self.assertIn(row[3:5], reads[rank])
                self.assertNotEqual(row[4], row[5])
                waits[rank] = True

    def settled_in_turn(self, told, first, many):
        ranks = [row[2] for row in told if row[0] == "settle"]
        self.assertEqual(ranks, list(range(first, first + many)))

    def text(self, maker):
        return maker.one_of([maker.busy(), maker.busy(), maker.dealing(maker.one_of([0, 1, 2, 4, 6, 9]))[0]])

    def courses(self, seed, many, folds):
        maker, kinds = Maker(seed), {}
        for k in range(many):
            texts = [self.text(maker) for each in range(maker.chance.randrange(16))]
            course = Course(self, maker, texts, k % 8 + 1, k // 8 % 3)
            course.go(folds)
            self.held_runs(course.told)
            self.settled_in_turn(course.told, course.first, len(texts))
            for row in course.told:
                kinds[row[0]] = kinds.get(row[0], 0) + 1
        self.assertEqual(sorted(kinds), ["again", "lay", "read", "rest", "settle", "step", "take"])
        self.assertGreater(kinds["again"], 60)

    def test_rows_of_moves(self):
        self.courses(75025, 192, False)

    def test_rows_of_moves_with_folds_between(self):
        self.courses(121393, 192, True)

    def test_dealings_that_all_deal_with_the_same_places(self):
        texts = [
            "take a 0 as x\ngive a 0 plus x 1\nsay x",
            "take a 0 as x\ntake a 1 as y\ngive a 0 y\ngive a 1 x\nsay minus x y",
            "take a 1 as x\nif rest x 2\ngive a 0 x\nelse\ngive a 1 plus x 1\nend",
            "take a rest x 3 as y\noff under 5 y\ngive a 2 plus y 2",
            "take a 2 as x\ntake a rest x 2 as y\nsay y\ngive a 1 over y x",
        ]
        maker, again = Maker(196418), 0
        for k in range(96):
            course = Course(self, maker, [maker.one_of(texts) for each in range(8)], k % 8 + 1, k // 8 % 3)
            course.go(k % 2 == 0)
            self.held_runs(course.told)
            again += len([row for row in course.told if row[0] == "again"])
        self.assertGreater(again, 200)

    def test_the_papers_are_those_of_one_by_one_for_many_dealings(self):
        chance = random.Random(317811)
        for kind, choose in WAYS:
            for hands in (1, 3, 8):
                drawn = [(chance.randrange(40), chance.randrange(40)) for k in range(300)]
                texts = [f"take a {one} as x\ngive a {other} plus x {k}\nsay x" for k, (one, other) in enumerate(drawn)]
                desk = Desk([(("a", 0), 5)], hands, kind())
                for text in texts:
                    desk.add(code(text))
                self.held_runs(desk.finish())
                papers, tables = own_papers(texts, [(("a", 0), 5)])
                self.assertEqual((desk.papers(), desk.table()), (papers, tables[-1]))

    def test_outcomes_and_table_are_those_of_the_plain_doing(self):
        maker = Maker(514229)
        for k in range(60):
            dealings, table = [maker.dealing(maker.one_of([3, 6, 12]))[0] for each in range(6)], maker.table()
            desk = Desk(table, k % 8 + 1, WAYS[k % 3][0]())
            for text in dealings:
                desk.add(code(text))
            desk.finish()
            told = ([paper[0] for paper in desk.papers()], desk.table())
            self.assertEqual(told, one_by_one([read(text) for text in dealings], table))

    def test_hands_in_turn_settle_all_whatever_was_done_ahead(self):
        maker = Maker(832040)
        for k in range(48):
            hands = k % 8 + 1
            desk = Desk(maker.table(), hands, WAYS[k % 3][0]())
            for each in range(7):
                desk.add(code(maker.dealing(6)[0]))
                for often in range(maker.chance.randrange(25)):
                    desk.move(maker.chance.randrange(hands))
            moves = 0
            while desk.settled() < 7:
                desk.move(moves % hands)
                moves += 1
                self.assertLess(moves, 20000)
            self.assertEqual(desk.finish(), [])


if __name__ == "__main__":
    unittest.main()
