"""[28], and [2] as far as it speaks of a house: a house begun from a log, dealings handed in, marks set."""

import copy
import unittest

from forerun.errors import ForerunError, NoDealing, NoHand, NoLog
from forerun.house import House, new_log
from forerun.logs import come_up, cut_short
from forerun.ways import Highest, Turning, Way
from making import WAYS, Maker, desk_of, moved, own_deal, own_lines, own_log, own_mark, own_papers

MOST = 10 ** 30
TOP = 10 ** 29
A, B, C = ("a", 0), ("a", 1), ("b", -1)
TABLE = [(A, 7), (C, -2)]
COUNT = "take a 0 as x\ngive a 0 plus x 1\nsay x"
TEXTS = [
    COUNT, "give a 1 3\nsay 9", COUNT, "take a 1 as x\noff x", "say over 1 0", "", f"say plus {MOST} 1", "give a 0 0",
]
BAD = [("take", 0), ("say 1\n", 1), ("if 1\nsay 2", 2), (" ", 0), ("say 1\n\nsay 2", 1), ("end", 0), ("say\t1", 0)]


def state(house):
    return (house.settled(), house.table(), house.kept(), house.log(), house.answers())


def house_of(texts, table=(), hands=2, way=None):
    """A house over a new log, with these texts handed in."""
    house = House(new_log(list(table)), hands, Way() if way is None else way)
    for text in texts:
        house.hand_in(text)
    return house


def deal(rank, outcome, gifts=()):
    return own_deal(rank, (outcome, [], list(gifts)))


class NewLog(unittest.TestCase):
    def test_of_tables(self):
        self.assertEqual(new_log([]), "mark 0 ; 0199\n")
        for table in [[], TABLE, [(A, MOST)], [(("a", k), 1) for k in range(300)], [(("silver", -MOST), -MOST)]]:
            self.assertEqual(new_log(table), own_mark(0, table) + "\n")
            self.assertEqual(come_up(new_log(table)), (0, table, []))
            self.assertEqual(cut_short(new_log(table)), new_log(table))

    def test_the_table_stays(self):
        table = list(TABLE)
        log = new_log(table=table)
        self.assertEqual(table, TABLE)
        table.clear()
        self.assertEqual((log, type(log)), (own_mark(0, TABLE) + "\n", str))


class Begun(unittest.TestCase):
    def test_from_a_new_log(self):
        for table in ([], TABLE):
            self.assertEqual(state(house_of([], table)), (0, table, 0, new_log(table), []))

    def parts(self):
        gave, said = (("done", (4,)), [(A, 7)], [(A, 0), (B, 5)]), (("done", (-1, 1)), [], [])
        return [gave, "mark", said, (("off", "told"), [], []), "mark", (("off", "nought"), [], [])]

    def test_from_logs_with_deals_and_marks(self):
        for first in (0, 1, 40, TOP - 20):
            for many in range(7):
                lines, ups = own_lines(first, TABLE, self.parts()[:many])
                rank, table, told = ups[-1]
                house = House(own_log(lines), 2, Way())
                self.assertEqual(state(house), (rank, table, 0, own_log(lines), told))
                self.assertEqual((house.hand_in("say 3"), house.hand_in("give b -1 8")), (rank, rank + 1))
                house.finish()
                lines += [deal(rank, ("done", (3,))), deal(rank + 1, ("done", ()), [(C, 8)])]
                told = told + [(rank, ("done", (3,))), (rank + 1, ("done", ()))]
                behind = [row for row in table if row[0] != C] + [(C, 8)]
                self.assertEqual(state(house), (rank + 2, behind, 1, own_log(lines), told))

    def test_from_a_log_whose_last_line_lacks_its_line_feed(self):
        lines, ups = own_lines(5, TABLE, self.parts())
        for many in range(1, 7):
            for cut in (1, 3, len(lines[many])):
                rank, table, told = ups[many - 1]
                house = House(own_log(lines[:many]) + lines[many][:cut], 1, Way())
                self.assertEqual(state(house), (rank, table, 0, own_log(lines[:many]), told))
                house.hand_in("say 1")
                house.finish()
                self.assertEqual(house.log(), own_log(lines[:many] + [deal(rank, ("done", (1,)))]))

    def test_what_it_takes_is_what_stood_behind_the_log(self):
        lines, ups = own_lines(3, TABLE, self.parts())
        house = House(own_log(lines), 1, Way())
        house.hand_in("take a 0 as x\ntake a 1 as y\ntake b -1 as z\nsay x\nsay y\nsay z")
        reads = [did[3:] for did in house.finish() if did[0] == "read"]
        self.assertEqual(reads, [(A, 0), (B, 5), (C, -2)])
        self.assertEqual(house.answers()[-1], (7, ("done", (0, 5, -2))))

    def test_from_no_log(self):
        log, done = new_log([]), deal(0, ("done", ()))
        for text in ["", log[:-1], "x\n", done, done + "\n", log + "\n", log * 2 + "x\n", log + f"{done}\n" * 2]:
            way = Turning()
            with self.assertRaises(NoLog) as caught:
                House(text, 2, way)
            self.assertIsInstance(caught.exception, ForerunError)
            self.assertEqual(way.chosen([5, 6]), 5)

    def test_from_one_whose_next_rank_is_beyond_the_highest(self):
        log = own_log(own_lines(TOP, TABLE, [(("done", ()), [], [])])[0])
        house = House(log, 1, Way())
        self.assertEqual(state(house), (TOP + 1, TABLE, 0, log, [(TOP, ("done", ()))]))

    def test_up_to_the_highest_rank(self):
        house = House(own_mark(TOP - 1, TABLE) + "\n", 3, Highest())
        self.assertEqual([house.hand_in(COUNT), house.hand_in(COUNT)], [TOP - 1, TOP])
        house.finish()
        lines = [own_mark(TOP - 1, TABLE), deal(TOP - 1, ("done", (7,)), [(A, 8)]), deal(TOP, ("done", (8,)), [(A, 9)])]
        self.assertEqual(house.log(), own_log(lines))
        self.assertEqual(come_up(house.log()), (TOP + 1, [(A, 9), (C, -2)], house.answers()))

    def test_from_its_own_log(self):
        house = house_of(TEXTS, TABLE)
        house.finish()
        for log in (house.log(), cut_short(house.log())):
            other = House(log, 3, Turning())
            self.assertEqual(state(other), (8, house.table(), 0, house.log(), house.answers()))
        house.mark()
        other = House(cut_short(house.log()), 1, Way())
        self.assertEqual(state(other), (8, house.table(), 0, own_mark(8, house.table()) + "\n", []))


class HandedIn(unittest.TestCase):
    def test_ranks_go_up(self):
        house = house_of([])
        self.assertEqual([house.hand_in(text) for text in TEXTS], list(range(8)))
        house.finish()
        self.assertEqual(house.hand_in(""), 8)

    def test_handing_in_settles_nothing(self):
        house = house_of(TEXTS, TABLE)
        self.assertEqual(state(house), (0, TABLE, 0, new_log(TABLE), []))

    def test_refused_texts(self):
        for text, row in BAD + [("\n".join(["say 1"] * 41), 40)]:
            house = house_of([COUNT, COUNT], TABLE, 2)
            moved(house, [0, 1, 0, 0, 0, 0, 0])
            before = state(house)
            with self.assertRaises(NoDealing) as caught:
                house.hand_in(text)
            self.assertEqual(caught.exception.row, row)
            self.assertEqual(state(house), before)
            self.assertEqual(house.hand_in("say 5"), 2)

    def test_what_is_refused_changes_nothing(self):
        one, other = house_of([], TABLE, 2, Turning()), house_of([], TABLE, 2, Turning())
        for text in TEXTS:
            for bad, row in BAD:
                self.assertRaises(NoDealing, one.hand_in, bad)
            self.assertEqual(one.hand_in(text), other.hand_in(text))
            self.assertEqual(moved(one, [0, 1, 1]), moved(other, [0, 1, 1]))
        self.assertEqual((one.finish(), state(one)), (other.finish(), state(other)))

    def test_amid_the_moves(self):
        house = house_of(["say 1"], TABLE, 2)
        self.assertEqual(moved(house, [0, 1, 0]), [("take", 0, 0), ("rest", 1), ("step", 0, 0)])
        house.hand_in("say 2")
        self.assertEqual(moved(house, [1, 0, 0]), [("take", 1, 1), ("lay", 0, 0), ("settle", 0, 0)])
        self.assertEqual((house.answers(), house.settled()), ([(0, ("done", (1,)))], 1))


class Moved(unittest.TestCase):
    def test_each_moment_of_two_dealings(self):
        house = house_of(["give a 0 3", "take a 0 as x\nsay x"], TABLE, 2)
        logs = [new_log(TABLE), deal(0, ("done", ()), [(A, 3)]) + "\n", deal(1, ("done", (3,))) + "\n"]
        answers = [(0, ("done", ())), (1, ("done", (3,)))]
        behind = [(A, 3), (C, -2)]
        for did, settled, table, kept in [
            (("take", 0, 0), 0, TABLE, 0), (("take", 1, 1), 0, TABLE, 0), (("step", 0, 0), 0, TABLE, 0),
            (("read", 1, 1, A, 7), 0, TABLE, 0), (("lay", 0, 0), 0, TABLE, 1), (("step", 1, 1), 0, TABLE, 1),
            (("settle", 0, 0), 1, behind, 1), (("lay", 1, 1), 1, behind, 1), (("again", 0, 1, A, 7, 3), 1, behind, 1),
            (("take", 1, 1), 1, behind, 1), (("rest", 0), 1, behind, 1), (("read", 1, 1, A, 3), 1, behind, 1),
            (("rest", 0), 1, behind, 1), (("step", 1, 1), 1, behind, 1), (("rest", 0), 1, behind, 1),
            (("lay", 1, 1), 1, behind, 1), (("settle", 0, 1), 2, behind, 1), (("rest", 1), 2, behind, 1),
        ]:
            self.assertEqual(house.move(did[1]), did)
            self.assertEqual(state(house), (settled, table, kept, "".join(logs[:settled + 1]), answers[:settled]))

    def test_as_a_desk(self):
        for kind, choose in WAYS:
            for hands in range(1, 9):
                house, desk = house_of(TEXTS, TABLE, hands, kind()), desk_of(TEXTS, TABLE, hands, kind())
                for k in range(60):
                    self.assertEqual(house.move(k * k % hands), desk.move(k * k % hands))
                    self.assertEqual(state(house)[:3], (desk.settled(), desk.table(), desk.kept()))
                    self.assertEqual(house.answers(), [(rank, paper[0]) for rank, paper in enumerate(desk.papers())])
                self.assertEqual(house.finish(), desk.finish())
                self.assertEqual(house.finish(), [])
                papers, tables = own_papers(TEXTS, TABLE)
                lines = [own_mark(0, TABLE)] + [own_deal(rank, paper) for rank, paper in enumerate(papers)]
                answers = [(rank, paper[0]) for rank, paper in enumerate(papers)]
                self.assertEqual(state(house), (8, tables[-1], desk.kept(), own_log(lines), answers))

    def test_hands_that_are_not_there(self):
        for hands in range(1, 9):
            house, other = house_of(TEXTS, TABLE, hands, Turning()), house_of(TEXTS, TABLE, hands, Turning())
            for k in range(30):
                for wrong in (-1, -hands, hands, hands + 1, TOP, -TOP, 10 ** 4300, -(10 ** 4300), 10 ** 9000):
                    before = state(house)
                    with self.assertRaises(NoHand) as caught:
                        house.move(wrong)
                    self.assertIsInstance(caught.exception, ForerunError)
                    self.assertEqual(state(house), before)
                self.assertEqual(house.move(k % hands), other.move(k % hands))
            self.assertEqual((house.finish(), state(house)), (other.finish(), state(other)))

    def test_one_line_for_each_settled_dealing_whichever_way_they_are_settled(self):
        whole = house_of(TEXTS, TABLE, 3, Highest())
        whole.finish()
        for many in range(0, 120, 7):
            house = house_of(TEXTS, TABLE, 3, Highest())
            for k in range(many):
                house.move(k % 3)
                house.log()
            house.finish()
            self.assertEqual(state(house), state(whole))

    def test_dealings_that_are_run_again_have_one_line(self):
        house = house_of([COUNT] * 6, TABLE, 4, Highest())
        did = house.finish()
        self.assertGreater(len([row for row in did if row[0] == "again"]), 5)
        lines = [own_mark(0, TABLE)] + [deal(k, ("done", (7 + k,)), [(A, 8 + k)]) for k in range(6)]
        self.assertEqual(house.log(), own_log(lines))

    def test_nothing_to_do(self):
        house = house_of([], TABLE, 2)
        self.assertEqual((house.move(0), house.move(1), house.finish()), (("rest", 0), ("rest", 1), []))
        self.assertEqual(state(house), (0, TABLE, 0, new_log(TABLE), []))

    def test_the_way_is_asked_once_for_each_take(self):
        asked = []

        class Counting(Way):
            def chosen(self, ranks):
                asked.append(list(ranks))
                return ranks[-1]

        house = house_of(TEXTS, TABLE, 3, Counting())
        for text, row in BAD:
            self.assertRaises(NoDealing, house.hand_in, text)
        house.mark()
        did = house.finish()
        house.mark()
        state(house)
        self.assertEqual(len(asked), len([row for row in did if row[0] == "take"]))


class Marks(unittest.TestCase):
    def test_ahead_of_any_dealing(self):
        for table in ([], TABLE):
            house = house_of([], table)
            self.assertIsNone(house.mark())
            self.assertEqual(state(house), (0, table, 0, new_log(table) * 2, []))

    def test_with_dealings_none_of_which_is_settled(self):
        house = house_of(TEXTS, TABLE)
        moved(house, [0, 1, 0, 1])
        house.mark()
        self.assertEqual(house.log(), new_log(TABLE) * 2)

    def test_twice_at_one_place(self):
        house = house_of(["give a 1 5"], TABLE)
        house.finish()
        for k in range(3):
            house.mark()
        marks = [own_mark(1, [(A, 7), (B, 5), (C, -2)])] * 3
        self.assertEqual(house.log(), own_log([own_mark(0, TABLE), deal(0, ("done", ()), [(B, 5)])] + marks))

    def test_behind_a_finish_it_has_the_rank_of_the_next_dealing(self):
        house = house_of(TEXTS, TABLE)
        house.finish()
        table = house.table()
        house.mark()
        self.assertEqual(house.log().split("\n")[-2], own_mark(8, table))
        self.assertEqual(house.hand_in("say 1"), 8)
        house.finish()
        self.assertEqual(house.log().split("\n")[-3:], [own_mark(8, table), deal(8, ("done", (1,))), ""])

    def test_it_folds_the_makes(self):
        house = house_of(["give a 0 1\ngive a 1 1", "give a 0 2", "give b 0 3"], TABLE, 3)
        kept = []
        while house.settled() < 3:
            house.move(len(kept) % 3)
            kept.append(house.kept())
        self.assertEqual(kept[-1], 4)
        house.mark()
        self.assertEqual((house.kept(), house.table()), (0, [(A, 2), (B, 1), (C, -2), (("b", 0), 3)]))

    def test_makes_that_are_not_settled_stay(self):
        house = house_of(["give a 0 1", "give a 0 2", "say 1"], TABLE, 2)
        while house.settled() < 1 or house.kept() < 2:
            house.move(1 if house.settled() else 0)
        self.assertEqual((house.settled(), house.kept(), house.table()), (1, 2, [(A, 1), (C, -2)]))
        house.mark()
        self.assertEqual((house.settled(), house.kept(), house.table()), (1, 1, [(A, 1), (C, -2)]))
        house.finish()
        self.assertEqual((house.kept(), house.table()), (1, [(A, 2), (C, -2)]))

    def test_at_each_moment(self):
        papers, tables = own_papers(TEXTS, TABLE)
        plain = house_of(TEXTS, TABLE, 2, Highest())
        moves = len(plain.finish())
        for many in range(0, moves + 1, 3):
            house = house_of(TEXTS, TABLE, 2, Highest())
            for k in range(many):
                house.move(k % 2)
            settled = house.settled()
            before = state(house)
            house.mark()
            self.assertEqual(house.log(), before[3] + own_mark(settled, tables[settled]) + "\n")
            self.assertEqual((house.settled(), house.table(), house.answers()), (settled, tables[settled], before[4]))
            self.assertLessEqual(house.kept(), before[2])
            house.finish()
            lines = [own_mark(0, TABLE)] + [own_deal(rank, paper) for rank, paper in enumerate(papers)]
            lines.insert(settled + 1, own_mark(settled, tables[settled]))
            self.assertEqual(house.log(), own_log(lines))
            self.assertEqual((house.table(), house.answers()), (plain.table(), plain.answers()))

    def test_marks_change_no_move(self):
        for kind, choose in WAYS:
            one, other = house_of(TEXTS, TABLE, 3, kind()), house_of(TEXTS, TABLE, 3, kind())
            for k in range(70):
                one.mark()
                self.assertEqual(one.move(k % 3), other.move(k % 3))
            self.assertEqual((one.table(), one.answers()), (other.table(), other.answers()))


class Own(unittest.TestCase):
    """[2]: lists told are the asker's own, nothing done later changes them; two houses are apart."""

    def test_each_list_told_is_the_askers_own(self):
        house = house_of(TEXTS, TABLE)
        asks = [house.table, house.answers, house.finish]
        for k in range(50):
            before = state(house)
            told = [asked() for asked in asks[:2] * 2]
            self.assertEqual(len({id(one) for one in told}), 4)
            for one in told:
                one.append("more")
            self.assertEqual(state(house), before)
            house.move(k % 2)
        lists = [asked() for asked in asks * 2]
        for one in lists:
            one.clear()
        self.assertEqual((house.table(), house.answers()), state(house)[1::3])
        self.assertEqual(len(house.answers()), 8)

    def test_nothing_done_later_changes_what_was_told(self):
        house = house_of(TEXTS, TABLE)
        told = []
        for k in range(40):
            told.append((house.move(k % 2), state(house)))
            if k % 7 == 0:
                house.mark()
        expected = copy.deepcopy(told)
        house.hand_in("give a 5 5")
        house.finish()
        house.mark()
        self.assertEqual(told, expected)

    def test_lists_of_the_log_it_began_with(self):
        log = own_log(own_lines(0, TABLE, [(("done", (1,)), [], [])])[0])
        one, other = House(log, 1, Way()), House(log, 1, Way())
        one.answers().append("more")
        one.hand_in(COUNT)
        one.finish()
        one.mark()
        self.assertEqual(state(other), (1, TABLE, 0, log, [(0, ("done", (1,)))]))

    def test_two_houses_apart(self):
        maker = Maker(139583862445)
        for k in range(20):
            texts, table = [maker.busy() for each in range(6)], maker.table()
            alone = house_of(texts, table, 3, WAYS[k % 3][0]())
            alone.finish()
            houses = [house_of(texts, table, 3, WAYS[k % 3][0]()), house_of(TEXTS, TABLE, 2, Highest())]
            for move in range(60):
                houses[move % 2].move(move % 3 % 2)
            for house in houses:
                house.finish()
            self.assertEqual(houses[0].answers(), alone.answers())
            self.assertEqual(houses[0].log(), alone.log())
            self.assertEqual(houses[1].table(), own_papers(TEXTS, TABLE)[1][-1])

    def test_arguments_by_their_names_and_kinds_told(self):
        house = House(log=new_log(TABLE), hands=2, way=Way())
        self.assertIs(type(house.hand_in(text=COUNT)), int)
        self.assertEqual(house.move(hand=1), ("take", 1, 0))
        told = house.finish()
        self.assertEqual([type(told), type(told[0])], [list, tuple])
        self.assertEqual([type(part) for part in state(house)], [int, list, int, str, list])
        answer = house.answers()[0]
        kinds = [type(part) for part in (answer, answer[0], answer[1], answer[1][1])]
        self.assertEqual(kinds, [tuple, int, tuple, tuple])


if __name__ == "__main__":
    unittest.main()
