"""[20], [21]: what the hands of a desk do and tell, move by move."""

import unittest

from forerun.desk import Desk
from forerun.errors import ForerunError, NoHand
from forerun.ways import Highest, Turning, Way
from making import WAYS, code, desk_of, moved

MOST = 10 ** 30
TOP = 10 ** 29
A, B, C = ("a", 0), ("a", 1), ("b", -1)
TABLE = [(A, 7), (C, -2)]
# Python writes no number of more than 4300 figures, if not told otherwise.
GREAT = [10 ** 639, 10 ** 640, 10 ** 4299, 10 ** 4300, 10 ** 5000, 10 ** 20000]
COUNT = "take a 0 as x\ngive a 0 plus x 1\nsay x"


class Asked(Turning):
    """A turning way that keeps what it was asked, and does with the list what it likes."""

    def __init__(self):
        Turning.__init__(self)
        self.lists = []

    def chosen(self, ranks):
        self.lists.append(list(ranks))
        found = Turning.chosen(self, ranks)
        ranks.clear()
        return found


class Holding(unittest.TestCase):
    def goes(self, texts, hands, told, **more):
        """hands: the hands that move, one after the other; told: what they tell."""
        desk = desk_of(texts, more.pop("table", TABLE), more.pop("many", 3), **more)
        self.assertEqual(moved(desk, hands), told)
        return desk

    def goes_alone(self, text, told):
        """By hand 0; told: what the run tells between its take and its settling, less hand and rank."""
        rows = [("take", 0, 0)] + [row[:1] + (0, 0) + row[1:] for row in told]
        rows += [("lay", 0, 0), ("settle", 0, 0), ("rest", 0)]
        return self.goes([text], [0] * len(rows), rows)

    def test_read_of_a_place_of_the_table(self):
        self.goes_alone("take a 0 as x", [("read", A, 7)])
        self.goes_alone("take b -1 as x\ntake a 0 as y", [("read", C, -2), ("read", A, 7)])
        self.goes_alone("let x 2\ntake b minus 1 x as x", [("step",), ("read", C, -2)])

    def test_read_of_a_worth_of_0(self):
        self.goes_alone("take a 1 as x", [("read", B, 0)])
        self.goes_alone(f"take silver {MOST} as x", [("read", ("silver", MOST), 0)])
        self.goes(
            ["give a 0 0", "take a 0 as x"], [0, 1, 0, 0, 1],
            [("take", 0, 0), ("take", 1, 1), ("step", 0, 0), ("lay", 0, 0), ("read", 1, 1, A, 0)],
        )

    def test_read_of_what_a_lower_rank_laid(self):
        desk = self.goes(
            ["give a 0 3\ngive a 1 4", "take a 0 as x\ntake a 1 as y\ntake b -1 as z"], [0, 1, 0, 0, 0, 1, 1, 1],
            [
                ("take", 0, 0), ("take", 1, 1), ("step", 0, 0), ("step", 0, 0), ("lay", 0, 0), ("read", 1, 1, A, 3),
                ("read", 1, 1, B, 4), ("read", 1, 1, C, -2),
            ],
        )
        self.assertEqual(desk.settled(), 0)

    def test_read_of_what_a_lower_rank_gave_and_did_not_lay_yet(self):
        self.goes(
            ["give a 0 3", "take a 0 as x"], [0, 1, 0, 1, 0],
            [("take", 0, 0), ("take", 1, 1), ("step", 0, 0), ("read", 1, 1, A, 7), ("lay", 0, 0)],
        )

    def test_read_of_what_the_highest_of_the_lower_ranks_laid(self):
        self.goes(
            ["give a 0 3", "give a 0 4", "take a 0 as x"], [1, 1, 1, 0, 0, 0, 2, 2],
            [
                ("take", 1, 0), ("step", 1, 0), ("lay", 1, 0), ("settle", 0, 0), ("take", 0, 1), ("step", 0, 1),
                ("take", 2, 2), ("read", 2, 2, A, 3),
            ],
        )
        self.goes(
            ["give a 0 3", "give a 0 4", "take a 0 as x"], [0, 1, 2, 1, 1, 0, 0, 2],
            [
                ("take", 0, 0), ("take", 1, 1), ("take", 2, 2), ("step", 1, 1), ("lay", 1, 1), ("step", 0, 0),
                ("lay", 0, 0), ("read", 2, 2, A, 4),
            ],
        )

    def test_read_of_what_a_higher_rank_laid(self):
        self.goes(
            ["take a 0 as x\ntake a 1 as y", "give a 0 3\ngive a 1 4"], [0, 1, 1, 1, 1, 0, 0],
            [
                ("take", 0, 0), ("take", 1, 1), ("step", 1, 1), ("step", 1, 1), ("lay", 1, 1), ("read", 0, 0, A, 7),
                ("read", 0, 0, B, 0),
            ],
        )

    def test_read_of_what_it_laid_itself_ahead(self):
        # Run again it sees what is below its rank, not its own makes.
        self.goes(
            ["give a 0 3", "take a 0 as x\ngive a 0 plus x 10"], [0] * 7 + [1] * 5,
            [
                ("take", 0, 1), ("read", 0, 1, A, 7), ("step", 0, 1), ("lay", 0, 1), ("take", 0, 0), ("step", 0, 0),
                ("lay", 0, 0), ("settle", 1, 0), ("again", 1, 1, A, 7, 3), ("take", 1, 1), ("read", 1, 1, A, 3),
                ("step", 1, 1),
            ],
            way=Highest(),
        )

    def test_steps(self):
        self.goes_alone("let x 3\nsay x\ngive a 5 x\noff 0", [("step",)] * 4)

    def test_skip_and_go_are_steps(self):
        self.goes_alone("if 1\nsay 1\nelse\nsay 2\nsay 3\nend\nsay 4", [("step",)] * 4)
        self.goes_alone("if 0\nsay 1\nelse\nsay 2\nsay 3\nend\nsay 4", [("step",)] * 4)
        self.goes_alone("if 0\nsay 1\nsay 2\nend", [("step",)])
        self.goes_alone("if 1\nend\nif 0\nelse\nend", [("step",)] * 2)
        self.goes_alone("if 1\nelse\ntake a 0 as x\nend", [("step",)] * 2)
        self.goes_alone("if 0\nelse\ntake a 0 as x\nend", [("step",), ("read", A, 7)])

    def test_a_take_of_a_place_that_was_given_to_or_noted(self):
        self.goes_alone("give a 0 5\ntake a 0 as x\nsay x", [("step",)] * 3)
        self.goes_alone("take a 0 as x\ntake a 0 as y\ntake a 0 as x", [("read", A, 7), ("step",), ("step",)])
        self.goes_alone("take a 1 as x\ntake a 1 as y", [("read", B, 0), ("step",)])
        text = "take a 0 as x\ngive a 0 1\ntake a 0 as y\ntake a 1 as y"
        self.goes_alone(text, [("read", A, 7), ("step",), ("step",), ("read", B, 0)])

    def test_the_step_that_breaks_off(self):
        takes = ["take a rest 1 0 as x", f"take a times {MOST} 2 as x"]
        for row in ["off 1", f"say plus {MOST} 1", "say over 1 0"] + takes:
            self.goes_alone(f"take a 0 as x\n{row}\nsay 1\ntake a 1 as x", [("read", A, 7), ("step",)])
            self.goes_alone(row, [("step",)])

    def test_a_code_without_steps(self):
        desk = self.goes_alone("", [])
        self.assertEqual((desk.papers(), desk.table(), desk.kept()), ([(("done", ()), [], [])], TABLE, 0))

    def test_laying(self):
        desk = desk_of(["give a 0 0\ngive a 1 3\ngive a 1 4", "off 1"], TABLE)
        moved(desk, [0] * 4)
        self.assertEqual((desk.kept(), desk.settled(), desk.papers()), (0, 0, []))
        self.assertEqual(desk.move(0), ("lay", 0, 0))
        self.assertEqual((desk.kept(), desk.settled(), desk.papers(), desk.table()), (2, 0, [], TABLE))
        self.assertEqual(desk.move(0), ("settle", 0, 0))
        self.assertEqual((desk.kept(), desk.settled()), (2, 1))
        self.assertEqual(desk.papers(), [(("done", ()), [], [(A, 0), (B, 4)])])
        self.assertEqual(desk.table(), [(B, 4), (C, -2)])

    def test_a_run_broken_off_has_notes_and_no_gifts(self):
        for row, why in [("off 1", "told"), (f"say plus {MOST} 1", "great"), ("say over 1 0", "nought")]:
            text = f"take a 0 as x\ngive a 0 1\ngive a 1 1\n{row}\nsay 1"
            desk = self.goes_alone(text, [("read", A, 7), ("step",), ("step",), ("step",)])
            self.assertEqual(desk.papers(), [(("off", why), [(A, 7)], [])])
            self.assertEqual((desk.kept(), desk.table()), (0, TABLE))

    def test_a_run_broken_off_goes_again_for_its_notes(self):
        desk = self.goes(
            ["give a 0 3", "take a 0 as x\ngive a 1 x\noff under 5 x"], [0] * 8 + [1] * 8,
            [
                ("take", 0, 1), ("read", 0, 1, A, 7), ("step", 0, 1), ("step", 0, 1), ("lay", 0, 1), ("take", 0, 0),
                ("step", 0, 0), ("lay", 0, 0), ("settle", 1, 0), ("again", 1, 1, A, 7, 3), ("take", 1, 1),
                ("read", 1, 1, A, 3), ("step", 1, 1), ("step", 1, 1), ("lay", 1, 1), ("settle", 1, 1),
            ],
            way=Highest(),
        )
        self.assertEqual(desk.papers()[1], (("done", ()), [(A, 3)], [(B, 3)]))

    def test_broken_off_anew_its_makes_are_gone(self):
        desk = self.goes(
            ["give a 0 3", "take a 0 as x\ngive a 1 5\noff under x 5", "take a 1 as x"], [0] * 11 + [1] * 10,
            [
                ("take", 0, 2), ("read", 0, 2, B, 0), ("lay", 0, 2), ("take", 0, 1), ("read", 0, 1, A, 7),
                ("step", 0, 1), ("step", 0, 1), ("lay", 0, 1), ("again", 0, 2, B, 0, 5), ("take", 0, 2),
                ("read", 0, 2, B, 5), ("take", 1, 0), ("step", 1, 0), ("lay", 1, 0), ("settle", 1, 0),
                ("again", 1, 1, A, 7, 3), ("take", 1, 1), ("read", 1, 1, A, 3), ("step", 1, 1), ("step", 1, 1),
                ("lay", 1, 1),
            ],
            way=Highest(),
        )
        self.assertEqual(
            moved(desk, [0, 0, 0, 0, 0, 0, 0, 0]),
            [
                ("lay", 0, 2), ("settle", 0, 1), ("again", 0, 2, B, 5, 0), ("take", 0, 2), ("read", 0, 2, B, 0),
                ("lay", 0, 2), ("settle", 0, 2), ("rest", 0),
            ],
        )


class Free(unittest.TestCase):
    def laid(self, texts, order, table=TABLE, hands=3):
        """A desk whose ranks were taken up by as many hands ahead, run and laid in this order, so that all read what
        those ahead of them in it laid; none is settled."""
        desk = desk_of(texts, table, max(hands, len(texts)))
        moved(desk, range(len(texts)))
        for hand in order:
            while desk.move(hand)[0] != "lay":
                pass
        return desk

    def test_settled_one_by_one_in_the_order_of_ranks(self):
        desk = self.laid(["say 1", "say 2", "say 3"], [2, 1, 0])
        self.assertEqual(moved(desk, [1, 0, 2, 1]), [("settle", 1, 0), ("settle", 0, 1), ("settle", 2, 2), ("rest", 1)])
        self.assertEqual([paper[0] for paper in desk.papers()], [("done", (1,)), ("done", (2,)), ("done", (3,))])

    def test_not_settled_while_a_lower_rank_has_no_paper(self):
        desk = desk_of(["say 1", "say 2"], TABLE, 3)
        self.assertEqual(
            moved(desk, [0, 1, 1, 1, 1, 2, 0, 0, 1, 1, 1]),
            [
                ("take", 0, 0), ("take", 1, 1), ("step", 1, 1), ("lay", 1, 1), ("rest", 1), ("rest", 2), ("step", 0, 0),
                ("lay", 0, 0), ("settle", 1, 0), ("settle", 1, 1), ("rest", 1),
            ],
        )

    def test_a_paper_without_notes_is_never_run_again(self):
        desk = self.laid(["give a 0 1", "give a 0 2", "say 3"], [2, 1, 0])
        self.assertEqual(moved(desk, [0] * 4), [("settle", 0, 0), ("settle", 0, 1), ("settle", 0, 2), ("rest", 0)])

    def test_again_tells_the_first_such_note(self):
        texts = ["give a 1 5\ngive b -1 6", "take a 0 as x\ntake b -1 as y\ntake a 1 as z"]
        desk = self.laid(texts, [1, 0])
        self.assertEqual(moved(desk, [0, 2]), [("settle", 0, 0), ("again", 2, 1, C, -2, 6)])
        texts = ["give a 1 5\ngive b -1 6", "take a 1 as x\ntake b -1 as y\ntake a 0 as z"]
        desk = self.laid(texts, [1, 0])
        self.assertEqual(moved(desk, [0, 2]), [("settle", 0, 0), ("again", 2, 1, B, 0, 5)])

    def test_a_new_worth_of_0(self):
        desk = self.laid(["give a 0 0", "take a 0 as x"], [1, 0])
        self.assertEqual(moved(desk, [0, 0]), [("settle", 0, 0), ("again", 0, 1, A, 7, 0)])

    def test_the_same_worth_put_there_is_no_other(self):
        desk = self.laid(["give a 0 7\ngive a 1 0", "take a 0 as x\ntake a 1 as y"], [1, 0])
        self.assertEqual(moved(desk, [0, 0, 0]), [("settle", 0, 0), ("settle", 0, 1), ("rest", 0)])

    def test_a_worth_that_became_another_and_was_made_the_same_by_a_rank_between(self):
        desk = self.laid(["give a 0 3", "give a 0 7", "take a 0 as x"], [2, 0, 1])
        self.assertEqual(moved(desk, [0] * 4), [("settle", 0, 0), ("settle", 0, 1), ("settle", 0, 2), ("rest", 0)])
        desk = self.laid(["give a 0 3", "give a 0 7", "take a 0 as x"], [2, 1, 0])
        self.assertEqual(moved(desk, [0] * 4), [("settle", 0, 0), ("settle", 0, 1), ("settle", 0, 2), ("rest", 0)])

    def test_a_worth_that_became_another_ahead_of_the_laying(self):
        desk = desk_of(["give a 0 3", "take a 0 as x\nsay x"], TABLE, 2)
        self.assertEqual(
            moved(desk, [0, 1, 1, 0, 0, 1, 1, 1, 1, 1]),
            [
                ("take", 0, 0), ("take", 1, 1), ("read", 1, 1, A, 7), ("step", 0, 0), ("lay", 0, 0), ("step", 1, 1),
                ("lay", 1, 1), ("settle", 1, 0), ("again", 1, 1, A, 7, 3), ("take", 1, 1),
            ],
        )

    def test_the_lowest_such_rank(self):
        for order in ([1, 2, 3, 0], [3, 2, 1, 0], [2, 3, 1, 0]):
            desk = self.laid(["give a 0 3", "take a 0 as x", "take a 0 as x", "take a 0 as x"], order, hands=4)
            self.assertEqual(
                moved(desk, [3, 3, 2, 1, 0]),
                [
                    ("settle", 3, 0), ("again", 3, 1, A, 7, 3), ("again", 2, 2, A, 7, 3), ("again", 1, 3, A, 7, 3),
                    ("take", 0, 1),
                ],
            )

    def test_ranks_between_without_such_a_note_keep_their_papers(self):
        desk = self.laid(["give a 0 3", "take b -1 as x", "take a 0 as x", "say 1"], [1, 2, 3, 0], hands=4)
        self.assertEqual(
            moved(desk, [0] * 8),
            [
                ("settle", 0, 0), ("settle", 0, 1), ("again", 0, 2, A, 7, 3), ("take", 0, 2), ("read", 0, 2, A, 3),
                ("lay", 0, 2), ("settle", 0, 2), ("settle", 0, 3),
            ],
        )

    def test_again_where_the_lowest_rank_is_held(self):
        # Neither settled nor waiting ranks are needed: rank 1 made rank 2 read another worth.
        desk = desk_of(["say 1", "give a 0 3", "take a 0 as x"], TABLE, 4)
        self.assertEqual(
            moved(desk, [0, 1, 2, 2, 2, 1, 1, 3, 3, 3, 3, 3]),
            [
                ("take", 0, 0), ("take", 1, 1), ("take", 2, 2), ("read", 2, 2, A, 7), ("lay", 2, 2), ("step", 1, 1),
                ("lay", 1, 1), ("again", 3, 2, A, 7, 3), ("take", 3, 2), ("read", 3, 2, A, 3),
                ("lay", 3, 2), ("rest", 3),
            ],
        )

    def test_the_paper_is_thrown_away_and_not_its_makes(self):
        desk = self.laid(["give a 0 3", "take a 0 as x\ngive a 1 plus x 1", "say 1"], [1, 0, 2])
        desk.add(code("take a 1 as x"))
        self.assertEqual(moved(desk, [0, 0]), [("settle", 0, 0), ("again", 0, 1, A, 7, 3)])
        self.assertEqual(desk.kept(), 2)
        self.assertEqual(
            moved(desk, [0, 1, 1, 0, 0, 2, 1, 0, 0, 0]),
            [
                ("take", 0, 1), ("take", 1, 3), ("read", 1, 3, B, 8), ("read", 0, 1, A, 3), ("step", 0, 1), ("rest", 2),
                ("lay", 1, 3), ("lay", 0, 1), ("settle", 0, 1), ("settle", 0, 2),
            ],
        )
        self.assertEqual(moved(desk, [2, 2, 2]), [("again", 2, 3, B, 8, 4), ("take", 2, 3), ("read", 2, 3, B, 4)])
        self.assertEqual(desk.kept(), 2)

    def test_laid_anew_with_other_places(self):
        texts = ["give a 0 1", "take a 0 as x\ngive b x 9", "take b 7 as x", "take b 1 as x"]
        desk = self.laid(texts, [1, 2, 3, 0], hands=4)
        self.assertEqual(
            moved(desk, [0] * 10),
            [
                ("settle", 0, 0), ("again", 0, 1, A, 7, 1), ("take", 0, 1), ("read", 0, 1, A, 1), ("step", 0, 1),
                ("lay", 0, 1), ("settle", 0, 1), ("again", 0, 2, ("b", 7), 9, 0), ("again", 0, 3, ("b", 1), 0, 9),
                ("take", 0, 2),
            ],
        )

    def test_first_settle_then_again_then_take_then_rest(self):
        desk = self.laid(["say 1", "give a 0 3", "take a 0 as x"], [2, 1, 0])
        desk.add(code("say 4"))
        # All of (a), (b), (c) can be.
        self.assertEqual(
            moved(desk, [0] * 3), [("settle", 0, 0), ("settle", 0, 1), ("again", 0, 2, A, 7, 3)],
        )
        self.assertEqual(moved(desk, [0, 1, 2]), [("take", 0, 2), ("take", 1, 3), ("rest", 2)])
        desk = self.laid(["say 1", "give a 0 3", "take a 0 as x", "say 4"], [2, 1], hands=5)
        # (b), (c): the lowest rank is held.
        desk.add(code("say 5"))
        self.assertEqual(
            moved(desk, [4, 4, 2, 1]), [("again", 4, 2, A, 7, 3), ("take", 4, 2), ("take", 2, 4), ("rest", 1)],
        )

    def test_a_rank_that_waits_again_is_chosen_by_the_way_among_all(self):
        desk = desk_of(["give a 0 3", "take a 0 as x", "say 2", "say 3", "say 4"], TABLE, 2, Highest())
        told = desk.finish()
        self.assertEqual([row[2] for row in told if row[0] == "take"], [4, 3, 2, 1, 0, 1])
        desk = desk_of(["give a 0 3", "take a 0 as x", "say 2"], TABLE, 3)
        moved(desk, [0, 1, 1, 1, 0, 0])
        self.assertEqual(
            moved(desk, [0, 1, 2, 0]), [("settle", 0, 0), ("again", 1, 1, A, 7, 3), ("take", 2, 1), ("take", 0, 2)],
        )

    def test_rest_where_all_is_settled_and_where_there_is_nothing(self):
        desk = desk_of([], TABLE, 2)
        self.assertEqual(moved(desk, [0, 1, 0]), [("rest", 0), ("rest", 1), ("rest", 0)])
        desk.add([])
        self.assertEqual(
            moved(desk, [1, 1, 0, 0, 1]), [("take", 1, 0), ("lay", 1, 0), ("settle", 0, 0), ("rest", 0), ("rest", 1)],
        )


class Taken(unittest.TestCase):
    def test_by_each_way(self):
        texts = ["say 1"] * 5
        for way, ranks in [(Way(), [0, 1, 2, 3, 4]), (Highest(), [4, 3, 2, 1, 0]), (Turning(), [0, 2, 4, 3, 1])]:
            desk = desk_of(texts, TABLE, 5, way)
            self.assertEqual(moved(desk, range(5)), [("take", hand, rank) for hand, rank in enumerate(ranks)])

    def test_the_way_is_asked_once_for_each_take_and_at_nothing_else(self):
        way = Asked()
        desk = desk_of([COUNT] * 6, TABLE, 3, way)
        told = desk.finish()
        takes, waiting, lists = [row for row in told if row[0] == "take"], [0, 1, 2, 3, 4, 5], []
        for row in told:
            if row[0] == "take":
                lists.append(list(waiting))
                waiting.remove(row[2])
            if row[0] == "again":
                waiting = sorted(waiting + [row[2]])
        self.assertGreater(len(takes), 6)
        self.assertEqual(way.lists, lists)
        self.assertEqual([row[2] for row in takes], [ranks[often % len(ranks)] for often, ranks in enumerate(lists)])

    def test_asking_the_desk_asks_no_way(self):
        way = Asked()
        desk = desk_of([COUNT] * 3, TABLE, 2, way)
        for k in range(2):
            desk.settled()
            desk.papers()
            desk.table()
            desk.kept()
            desk.fold()
            desk.add(code("say 1"))
        self.assertEqual(way.lists, [])
        moved(desk, [0, 0, 0])
        self.assertEqual(way.lists, [[0, 1, 2, 3, 4]])

    def test_each_hand_holds_one_and_tells_its_number(self):
        for many in range(1, 9):
            desk = desk_of(["say 1"] * many, TABLE, many + 1)
            self.assertEqual(moved(desk, range(many + 1)), [("take", k, k) for k in range(many)] + [("rest", many)])
            self.assertEqual(moved(desk, range(many + 1)), [("step", k, k) for k in range(many)] + [("rest", many)])
            self.assertEqual(moved(desk, range(many)), [("lay", k, k) for k in range(many)])
            self.assertEqual(moved(desk, [many] * many), [("settle", many, k) for k in range(many)])
            self.assertEqual(moved(desk, range(many + 1)), [("rest", k) for k in range(many + 1)])

    def test_one_hand(self):
        desk = desk_of([COUNT, COUNT], TABLE, 1)
        self.assertEqual(
            moved(desk, [0] * 13),
            [
                ("take", 0, 0), ("read", 0, 0, A, 7), ("step", 0, 0), ("step", 0, 0), ("lay", 0, 0), ("settle", 0, 0),
                ("take", 0, 1), ("read", 0, 1, A, 8), ("step", 0, 1), ("step", 0, 1), ("lay", 0, 1), ("settle", 0, 1),
                ("rest", 0),
            ],
        )


class Adding(unittest.TestCase):
    def test_ranks_go_up_from_first(self):
        for first in (0, 1, 7, TOP - 5):
            desk = Desk(TABLE, 2, Way(), first)
            self.assertEqual([desk.add(code("say 1")) for k in range(5)], [first + k for k in range(5)])
        self.assertEqual(Desk(TABLE, 2, Way()).add([]), 0)

    def test_amid_the_moves(self):
        desk = desk_of(["take a 0 as x\nsay x"], TABLE, 2)
        self.assertEqual(moved(desk, [0, 1]), [("take", 0, 0), ("rest", 1)])
        self.assertEqual(desk.add(code("give a 0 1")), 1)
        self.assertEqual(
            moved(desk, [1, 1, 0, 1]), [("take", 1, 1), ("step", 1, 1), ("read", 0, 0, A, 7), ("lay", 1, 1)],
        )
        self.assertEqual(desk.add(code(COUNT)), 2)
        self.assertEqual(
            moved(desk, [1, 1, 0, 0]), [("take", 1, 2), ("read", 1, 2, A, 1), ("step", 0, 0), ("lay", 0, 0)],
        )
        self.assertEqual(moved(desk, [0, 0, 0]), [("settle", 0, 0), ("settle", 0, 1), ("rest", 0)])
        self.assertEqual(desk.add(code(COUNT)), 3)
        self.assertEqual(
            moved(desk, [0, 0, 1, 1, 1, 0, 0, 0, 0]),
            [
                ("take", 0, 3), ("read", 0, 3, A, 1), ("step", 1, 2), ("step", 1, 2), ("lay", 1, 2), ("step", 0, 3),
                ("step", 0, 3), ("lay", 0, 3), ("settle", 0, 2),
            ],
        )
        self.assertEqual(desk.move(1), ("again", 1, 3, A, 1, 2))
        desk.finish()
        self.assertEqual([paper[0][1] for paper in desk.papers()], [(7,), (), (1,), (2,)])
        self.assertEqual(desk.table(), [(A, 3), (C, -2)])

    def test_behind_a_finish(self):
        desk = desk_of([COUNT, COUNT], TABLE, 2)
        desk.finish()
        self.assertEqual((desk.add(code(COUNT)), desk.settled()), (2, 2))
        self.assertEqual(
            desk.finish(),
            [
                ("take", 0, 2), ("rest", 1), ("read", 0, 2, A, 9), ("rest", 1), ("step", 0, 2), ("rest", 1),
                ("step", 0, 2), ("rest", 1), ("lay", 0, 2), ("settle", 1, 2),
            ],
        )
        self.assertEqual(desk.table(), [(A, 10), (C, -2)])

    def test_a_first_rank_above_0(self):
        for first in (1, 5, TOP - 3):
            texts = ["give a 0 3", "take a 0 as x\nsay x"]
            one, other = desk_of(texts, TABLE, 2, Highest(), first), desk_of(texts, TABLE, 2, Highest())
            self.assertEqual((one.settled(), one.table(), one.papers()), (first, TABLE, []))
            for hand in [0, 1, 0, 1, 1, 0, 0, 1, 0, 0, 0, 0, 0, 1]:
                told, plain = one.move(hand), other.move(hand)
                self.assertEqual(told, plain[:2] + tuple(rank + first for rank in plain[2:3]) + plain[3:])
            self.assertEqual(one.settled(), first + 2)
            self.assertEqual((one.papers(), one.table(), one.kept()), (other.papers(), other.table(), other.kept()))

    def test_arguments_by_their_names(self):
        desk = Desk(table=TABLE, hands=1, way=Way(), first=4)
        self.assertEqual((desk.add(code=code("say 1")), desk.move(hand=0)), (4, ("take", 0, 4)))


class NoSuchHand(unittest.TestCase):
    def refuses(self, desk, hands):
        small = [-1, -2, -hands, -TOP, hands, hands + 1, 8 * hands, MOST, 10 ** 40]
        for hand in small + GREAT + [-number for number in GREAT]:
            with self.assertRaises(NoHand) as caught:
                desk.move(hand)
            self.assertIsInstance(caught.exception, ForerunError)

    def test_below_0_and_from_the_number_of_hands_on(self):
        for hands in range(1, 9):
            for texts in ([], ["say 1"], [COUNT] * 3):
                self.refuses(desk_of(texts, TABLE, hands), hands)

    def test_nothing_is_changed(self):
        for kind, choose in WAYS:
            one, other = desk_of([COUNT] * 5, TABLE, 3, kind()), desk_of([COUNT] * 5, TABLE, 3, kind())
            for k in range(120):
                self.refuses(one, 3)
                self.assertEqual(one.move(k * k % 7 % 3), other.move(k * k % 7 % 3))
                self.assertEqual(
                    (one.settled(), one.papers(), one.table(), one.kept()),
                    (other.settled(), other.papers(), other.table(), other.kept()),
                )

    def test_the_way_is_not_asked(self):
        way = Asked()
        desk = desk_of(["say 1"] * 3, TABLE, 2, way)
        self.refuses(desk, 2)
        self.assertEqual(way.lists, [])
        self.assertEqual(desk.move(0), ("take", 0, 0))


if __name__ == "__main__":
    unittest.main()
