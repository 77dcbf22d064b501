"""[1] and [3], over the whole program: texts handed in at any moment, hands moved at will, marks set, the log cut."""

import unittest

from forerun.errors import NoDealing
from forerun.house import House, new_log
from forerun.logs import come_up, cut_short
from forerun.plain import one_by_one
from forerun.reader import read
from making import WAYS, Maker, OwnHouse, own_lines, own_log, own_papers

TOP = 10 ** 29


class Course:
    """A house and an own one beside it, begun from the same log, and done with alike."""

    def __init__(self, case, maker, hands, kind):
        self.case, self.maker, self.chance, self.hands, self.kind = case, maker, maker.chance, hands, kind
        self.texts = [self.text() for k in range(self.chance.randrange(14))]
        lines, ups = self.begun()
        self.first, self.last = ups[0][0], ""
        self.house = House(own_log(lines) + maker.one_of(["", "deal", lines[-1]]), hands, WAYS[kind][0]())
        self.own = OwnHouse(lines, *ups[-1], hands, WAYS[kind][1], self.texts[ups[-1][0] - self.first:])

    def text(self):
        maker = self.maker
        return maker.one_of([maker.busy(), maker.busy(), maker.dealing(maker.one_of([0, 1, 2, 4, 6, 9]))[0]])

    def begun(self):
        """The log of some of the dealings, with marks between."""
        papers, tables = own_papers(self.texts, self.maker.table())
        parts = []
        for paper in papers[:self.maker.one_of([0, 0, 1, 4])]:
            parts.extend([paper] + ["mark"] * self.chance.randrange(3))
        return own_lines(self.maker.one_of([0, 0, 1, 40, TOP - 20]), tables[0], parts)

    def hold(self):
        """What is settled, held against what comes of doing the dealings one by one."""
        house, own = self.house, self.own
        self.case.assertEqual((house.settled(), house.kept()), (own.settled(), own.makes.kept()))
        self.case.assertEqual((house.answers(), house.table()), (own.told, own.table()))
        log = house.log()
        self.case.assertEqual(log, own_log(own.lines))
        if log != self.last:
            self.case.assertEqual(come_up(log), (own.settled(), own.table(), own.told))
            self.last = log

    def do_one(self):
        drawn = self.chance.randrange(12)
        if drawn < 4 and len(self.own.texts) < len(self.own.coming):
            text = self.own.coming[len(self.own.texts)]
            self.case.assertEqual(self.house.hand_in(text), self.own.hand_in())
        elif drawn == 4:
            self.house.mark()
            self.own.mark()
        elif drawn == 5:
            self.case.assertRaises(NoDealing, self.house.hand_in, "say 1\nsay")
        else:
            hand = self.chance.randrange(self.hands)
            self.case.assertEqual(self.house.move(hand), self.own.move(hand))

    def go(self):
        """By chance, till all texts are handed in and somewhat beyond; then the hands in turn."""
        while len(self.own.texts) < len(self.own.coming) or self.chance.randrange(30):
            self.do_one()
            self.hold()
        self.case.assertEqual(self.house.finish(), self.own.finish())
        self.hold()
        self.case.assertEqual(self.house.settled(), self.first + len(self.texts))

    def again_from(self, log):
        """A house that comes up from a beginning of the log, and what it comes to with the others handed in again."""
        house = House(log, self.chance.randrange(1, 9), self.maker.one_of(WAYS)[0]())
        rank, table, told = come_up(log)
        self.case.assertEqual((house.settled(), house.table(), house.answers()), (rank, table, told))
        for text in self.texts[rank - self.first:]:
            house.hand_in(text)
            for k in range(self.chance.randrange(6)):
                house.move(0)
            if self.chance.randrange(5) == 0:
                house.mark()
        house.finish()
        self.case.assertEqual(house.settled(), self.first + len(self.texts))
        self.case.assertEqual(house.table(), self.own.table())
        return house


class Whole(unittest.TestCase):
    def courses(self, seed, many):
        maker = Maker(seed)
        for k in range(many):
            course = Course(self, maker, k % 8 + 1, k // 8 % 3)
            course.go()
            yield course

    def test_at_each_moment_it_is_one_by_one(self):
        for course in self.courses(225851433717, 192):
            self.assertEqual(len(course.own.told), len(course.texts))

    def test_the_log_cut_anywhere(self):
        for course in self.courses(365435296162, 96):
            log = course.house.log()
            bound = len(log.split("\n")[0]) + 1
            for at in [bound, len(log)] + [course.chance.randrange(bound, len(log) + 1) for k in range(4)]:
                house = course.again_from(log[:at])
                self.assertEqual(house.answers(), course.own.told)

    def test_the_log_cut_short_and_then_anywhere(self):
        shorter = 0
        for course in self.courses(591286729879, 96):
            log = course.house.log()
            short = cut_short(log)
            bound = len(short.split("\n")[0]) + 1
            rank = come_up(short[:bound])[0]
            shorter += len(short) < len(log)
            for at in [bound, len(short)] + [course.chance.randrange(bound, len(short) + 1) for k in range(3)]:
                house = course.again_from(short[:at])
                self.assertEqual(house.answers(), course.own.told[rank - course.first:])
        self.assertGreater(shorter, 40)

    def test_the_log_cut_anywhere_and_then_short(self):
        for course in self.courses(956722026041, 48):
            log = course.house.log()
            bound = len(log.split("\n")[0]) + 1
            for k in range(4):
                short = cut_short(log[:course.chance.randrange(bound, len(log) + 1)])
                rank = come_up(short[:len(short.split("\n")[0]) + 1])[0]
                house = course.again_from(short)
                self.assertEqual(house.answers(), course.own.told[rank - course.first:])

    def test_a_log_cut_at_each_sign(self):
        texts = ["take a 0 as x\ngive a 0 plus x 1\nsay x", "give b 3 7", "take b 3 as x\noff x", "give a 0 0\nsay -5"]
        house = House(new_log([(("a", 0), 4)]), 2, WAYS[1][0]())
        for text in texts:
            house.hand_in(text)
            house.move(0)
            house.mark()
        house.finish()
        log = house.log()
        for at in range(len(log.split("\n")[0]) + 1, len(log) + 1):
            other = House(log[:at], 3, WAYS[2][0]())
            for text in texts[other.settled():]:
                other.hand_in(text)
            other.finish()
            self.assertEqual((other.answers(), other.table()), (house.answers(), house.table()))

    def test_a_log_goes_on_where_it_was_cut(self):
        """Cut again and again, between some moves each."""
        maker = Maker(1548008755920)
        for k in range(48):
            texts, table = [maker.busy() for each in range(8)], maker.table()
            log = new_log(table)
            for again in range(12):
                house = House(log, k % 8 + 1, WAYS[k % 3][0]())
                for text in texts[house.settled():]:
                    house.hand_in(text)
                for each in range(maker.chance.randrange(40)):
                    house.move(maker.chance.randrange(k % 8 + 1))
                if maker.chance.randrange(3) == 0:
                    house.mark()
                whole = house.log()
                log = whole[:maker.chance.randrange(max(len(whole) - 30, len(new_log(table))), len(whole) + 1)]
            house = House(log, 1, WAYS[0][0]())
            for text in texts[house.settled():]:
                house.hand_in(text)
            house.finish()
            papers, tables = own_papers(texts, table)
            self.assertEqual(house.answers(), [(rank, paper[0]) for rank, paper in enumerate(papers)])
            self.assertEqual(house.table(), tables[-1])

    def test_answers_and_table_are_those_of_the_plain_doing(self):
        maker = Maker(2504730781961)
        for k in range(96):
            texts, table = [maker.dealing(maker.one_of([3, 6, 12]))[0] for each in range(6)], maker.table()
            house = House(new_log(table), k % 8 + 1, WAYS[k % 3][0]())
            for text in texts:
                house.hand_in(text)
            house.finish()
            outcomes, behind = one_by_one([read(text) for text in texts], table)
            self.assertEqual((house.answers(), house.table()), (list(enumerate(outcomes)), behind))

    def test_many_dealings(self):
        maker = Maker(4052739537881)
        drawn = [(maker.chance.randrange(40), maker.chance.randrange(40)) for k in range(300)]
        texts = [f"take a {one} as x\ngive a {other} plus x {k}\nsay x" for k, (one, other) in enumerate(drawn)]
        papers, tables = own_papers(texts, [])
        for kind, choose in WAYS:
            house = House(new_log([]), 8, kind())
            for text in texts:
                house.hand_in(text)
            house.finish()
            self.assertEqual(house.answers(), [(rank, paper[0]) for rank, paper in enumerate(papers)])
            self.assertEqual(house.table(), tables[-1])
            self.assertEqual(come_up(house.log()), (300, tables[-1], house.answers()))


if __name__ == "__main__":
    unittest.main()
