"""[24], and [2] as far as it speaks of it: orders that keep papers, and codes done in an order."""

import copy
import itertools
import random
import unittest

from forerun.errors import ForerunError, NoOrder
from forerun.orders import in_order, keeps
from making import Maker, code, made_up, own_alone, own_meet, own_paper, own_papers, paper

TOP = 10 ** 29
A, B, C = ("a", 0), ("a", 1), ("b", -1)
TABLE = [(A, 7), (C, -2)]
PLACES = [A, B, C, ("aa", 0), ("silver", 10 ** 30)]
COUNT = "take a 0 as x\ngive a 0 plus x 1\nsay x"
# What is no order of three: one too few, one too many, one twice, ranks that there are not, none at all.
NO_ORDERS_OF_THREE = [
    [], [0], [0, 1], [1, 2], [2, 0], [0, 1, 2, 3], [0, 1, 2, 2], [0, 0, 1, 2], [0, 1, 1], [0, 0, 0], [2, 2, 1],
    [1, 2, 3], [3, 1, 2], [-1, 0, 1], [0, 1, -1], [-1, 0, 1, 2], [0, 2, TOP], [-3, -2, -1], [0, -2, 2],
    [0, 1, 2, 0, 1, 2],
]


def own_keeps(papers, order):
    pairs = itertools.combinations(range(len(papers)), 2)
    met = [(lower, higher) for lower, higher in pairs if own_meet(papers[lower], papers[higher])]
    return all(order.index(lower) < order.index(higher) for lower, higher in met)


def own_in_order(texts, table, order):
    papers, behind = {}, table
    for rank in order:
        papers[rank] = own_paper(texts[rank], lambda place: dict(behind).get(place, 0))
        behind = own_alone(texts[rank], behind)[1]
    return ([papers[rank] for rank in sorted(papers)], behind)


class Keeps(unittest.TestCase):
    def keeping(self, papers):
        """All orders that keep these papers."""
        orders = [list(order) for order in itertools.permutations(range(len(papers)))]
        for order in orders:
            self.assertIs(keeps(papers, order), own_keeps(papers, order), order)
        return [order for order in orders if keeps(papers, order)]

    def test_no_papers(self):
        self.assertIs(keeps([], []), True)

    def test_one_paper_also_one_that_meets_itself(self):
        for one in [paper(), paper([A]), paper([], [A]), paper([A], [A])]:
            self.assertIs(keeps([one], [0]), True)

    def test_two_that_meet(self):
        for one, other in [([], [A]), ([A], [])], [([A], []), ([], [A])], [([], [A]), ([], [A])], [([A], [A])] * 2:
            self.assertIs(keeps([paper(*one), paper(*other)], [0, 1]), True)
            self.assertIs(keeps([paper(*one), paper(*other)], [1, 0]), False)

    def test_two_that_do_not_meet(self):
        for one, other in [([], [A]), ([B], [])], [([A], []), ([A], [])], [([A], [B]), ([A], [C])], [([], [])] * 2:
            self.assertIs(keeps([paper(*one), paper(*other)], [0, 1]), True)
            self.assertIs(keeps([paper(*one), paper(*other)], [1, 0]), True)

    def test_papers_that_never_meet(self):
        self.assertEqual(len(self.keeping([paper([A])] * 5)), 120)
        self.assertEqual(len(self.keeping([paper([A], [("b", k)]) for k in range(5)])), 120)
        self.assertEqual(len(self.keeping([paper()] * 4)), 24)

    def test_papers_that_all_meet(self):
        self.assertEqual(self.keeping([paper([], [A])] * 5), [[0, 1, 2, 3, 4]])
        self.assertEqual(self.keeping([paper([A], [A])] * 4), [[0, 1, 2, 3]])

    def test_the_first_and_the_last_meet_alone(self):
        papers = [paper([], [A]), paper([], [B]), paper([B]), paper([A])]
        self.assertEqual(
            self.keeping(papers), [[0, 1, 2, 3], [0, 1, 3, 2], [0, 3, 1, 2], [1, 0, 2, 3], [1, 0, 3, 2], [1, 2, 0, 3]]
        )
        papers = [paper([], [A]), paper([], [B]), paper([], [C]), paper([A])]
        self.assertIs(keeps(papers, [0, 2, 1, 3]), True)
        self.assertIs(keeps(papers, [2, 1, 0, 3]), True)
        self.assertIs(keeps(papers, [3, 1, 2, 0]), False)
        self.assertIs(keeps(papers, [2, 3, 1, 0]), False)

    def test_papers_broken_off_keep_their_notes(self):
        papers = [paper([], [A]), paper([A], [], ("off", "told")), paper([A], [], ("off", "great")), paper([], [A])]
        self.assertEqual(self.keeping(papers), [[0, 1, 2, 3], [0, 2, 1, 3]])

    def test_made_up_papers(self):
        chance, seen = random.Random(433494437), {True: 0, False: 0}
        for k in range(1500):
            papers = made_up(chance, chance.randrange(7), PLACES if k % 2 else [("a", number) for number in range(12)])
            order = chance.sample(range(len(papers)), len(papers))
            self.assertIs(keeps(papers, order), own_keeps(papers, order))
            seen[keeps(papers, order)] += 1
        self.assertGreater(min(seen.values()), 300)

    def test_many_papers(self):
        papers = [paper([("a", k)], [("a", k + 1)]) for k in range(300)]
        order = list(range(300))
        self.assertIs(keeps(papers, order), True)
        for at in (0, 150, 298):
            turned = order[:at] + [at + 1, at] + order[at + 2:]
            self.assertIs(keeps(papers, turned), False)
        self.assertIs(keeps([paper([A], [("b", k)]) for k in range(300)], order[::-1]), True)


class InOrder(unittest.TestCase):
    def comes_to(self, texts, table, order, papers, behind):
        self.assertEqual(in_order([code(text) for text in texts], table, order), (papers, behind))

    def test_no_codes(self):
        self.comes_to([], [], [], [], [])
        self.comes_to([], TABLE, [], [], TABLE)

    def test_one_code(self):
        self.comes_to([COUNT], TABLE, [0], [(("done", (7,)), [(A, 7)], [(A, 8)])], [(A, 8), (C, -2)])
        self.comes_to([""], TABLE, [0], [(("done", ()), [], [])], TABLE)

    def test_each_is_fed_behind_those_ahead_of_it_in_the_order(self):
        texts = ["take a 0 as x\nsay x", "give a 0 3", "take a 0 as x\ngive a 0 times x 2"]
        said, gave = (("done", (7,)), [(A, 7)], []), (("done", ()), [], [(A, 3)])
        self.comes_to(texts, TABLE, [0, 1, 2], [said, gave, (("done", ()), [(A, 3)], [(A, 6)])], [(A, 6), (C, -2)])
        self.comes_to(texts, TABLE, [0, 2, 1], [said, gave, (("done", ()), [(A, 7)], [(A, 14)])], [(A, 3), (C, -2)])
        late = (("done", (6,)), [(A, 6)], [])
        self.comes_to(texts, TABLE, [1, 2, 0], [late, gave, (("done", ()), [(A, 3)], [(A, 6)])], [(A, 6), (C, -2)])

    def test_a_gift_of_0_takes_the_place_off_the_table(self):
        gave, counted = (("done", ()), [], [(A, 0)]), (("done", (0,)), [(A, 0)], [(A, 1)])
        self.comes_to(["give a 0 0"], TABLE, [0], [gave], [(C, -2)])
        self.comes_to([COUNT, "give a 0 0"], TABLE, [1, 0], [counted, gave], [(A, 1), (C, -2)])

    def test_one_broken_off_leaves_the_table(self):
        for text, why in [("give a 0 1\noff 1", "told"), ("give a 0 1\nsay over 1 0", "nought")]:
            off = (("off", why), [], [])
            self.comes_to([text, COUNT], TABLE, [0, 1], [off, (("done", (7,)), [(A, 7)], [(A, 8)])], [(A, 8), (C, -2)])
            self.comes_to([text, COUNT], TABLE, [1, 0], [off, (("done", (7,)), [(A, 7)], [(A, 8)])], [(A, 8), (C, -2)])

    def test_papers_are_told_in_the_order_of_ranks(self):
        texts = [f"say {k}" for k in range(5)]
        for order in itertools.permutations(range(5)):
            self.comes_to(texts, TABLE, list(order), [(("done", (k,)), [], []) for k in range(5)], TABLE)

    def made_up(self, seed, many, most):
        maker = Maker(seed)
        for k in range(many):
            texts = [maker.busy() if k % 2 else maker.dealing(8)[0] for each in range(maker.chance.randrange(most))]
            order = maker.chance.sample(range(len(texts)), len(texts))
            yield (texts, maker.table(), order)

    def test_in_the_order_of_ranks_it_is_one_by_one(self):
        for texts, table, order in self.made_up(701408733, 80, 12):
            papers, tables = own_papers(texts, table)
            self.comes_to(texts, table, sorted(order), papers, tables[-1])

    def test_orders_of_made_up_dealings(self):
        others = 0
        for texts, table, order in self.made_up(1134903170, 120, 9):
            papers, behind = own_in_order(texts, table, order)
            self.comes_to(texts, table, order, papers, behind)
            others += (papers, behind) != own_in_order(texts, table, sorted(order))
        self.assertGreater(others, 20)

    def test_an_order_that_keeps_the_papers_leads_to_the_same(self):
        kept = 0
        for texts, table, order in self.made_up(1836311903, 400, 6):
            papers, tables = own_papers(texts, table)
            if order != sorted(order) and keeps(papers, order):
                self.comes_to(texts, table, order, papers, tables[-1])
                kept += 1
        self.assertGreater(kept, 40)

    def test_many_codes(self):
        texts, order = [f"take a {k} as x\ngive a {k + 1} plus x {k}" for k in range(300)], list(range(300))[::-1]
        papers, behind = own_in_order(texts, TABLE, order)
        self.comes_to(texts, TABLE, order, papers, behind)


class NoOrders(unittest.TestCase):
    """What is no order is refused."""

    def refused(self, many, order):
        before = list(order)
        with self.assertRaises(NoOrder, msg=order) as caught:
            keeps([paper([], [A])] * many, order)
        self.assertIsInstance(caught.exception, ForerunError)
        with self.assertRaises(NoOrder, msg=order):
            in_order([code(COUNT)] * many, TABLE, order)
        self.assertTrue(order == before)

    def test_of_three(self):
        for order in NO_ORDERS_OF_THREE:
            self.refused(3, order)

    def test_of_none(self):
        for order in [[0], [-1], [1], [0, 0], [TOP]]:
            self.refused(0, order)

    def test_of_one(self):
        for order in [[], [1], [-1], [0, 0], [0, 1], [TOP]]:
            self.refused(1, order)

    def test_of_many(self):
        order = list(range(300))
        for wrong in [order[:-1], order[1:], order + [300], order + [0], order[:-1] + [300], [-1] + order[1:], []]:
            self.refused(300, wrong)

    def test_numbers_of_very_many_figures(self):
        # Python writes no number of more than 4300 figures, if not told otherwise.
        for number in (10 ** 60, 10 ** 639, 10 ** 640, 10 ** 4299, 10 ** 4300, 10 ** 5000, 10 ** 20000):
            for great in (number, -number):
                for many in range(4):
                    self.refused(many, [great])
                    self.refused(many, [great] * 3)
                    self.refused(many, list(range(many)) + [great])
                    self.refused(many, [great] + list(range(many - 1)))

    def test_each_list_of_small_numbers(self):
        for many in range(4):
            for length in range(5):
                for order in itertools.product(range(-1, many + 1), repeat=length):
                    if sorted(order) == list(range(many)):
                        self.assertIs(keeps([paper([A])] * many, list(order)), True)
                    else:
                        self.refused(many, list(order))

    def test_papers_of_which_none_meet_are_refused_too(self):
        for order in NO_ORDERS_OF_THREE:
            self.assertRaises(NoOrder, keeps, [paper()] * 3, order)
            self.assertRaises(NoOrder, in_order, [[]] * 3, [], order)


class Own(unittest.TestCase):
    """[2]: what is handed in stays, lists told are the asker's own."""

    def handed(self, order):
        return ([code(COUNT), code("give b 0 2\nsay 1"), code("")], list(TABLE), list(order))

    def test_what_is_handed_in_stays(self):
        for order in [[2, 0, 1], [0, 1, 2], [1, 0, 2], [0, 1, 1], [0, 1], []]:
            papers, things = made_up(random.Random(3), 3, PLACES), self.handed(order)
            before = copy.deepcopy((papers, things))
            for asked in (lambda: keeps(papers, things[2]), lambda: in_order(*things)):
                try:
                    asked()
                except NoOrder:
                    self.assertNotEqual(sorted(order), [0, 1, 2])
            self.assertEqual((papers, things), before)

    def test_what_becomes_of_it_changes_nothing(self):
        codes, table, order = self.handed([2, 1, 0])
        told = in_order(codes, table, order)
        before = copy.deepcopy(told)
        codes[0].clear()
        codes.clear()
        table.clear()
        order.clear()
        self.assertEqual(told, before)

    def test_each_list_told_is_the_askers_own(self):
        for codes, order in [([], []), ([code(COUNT)], [0]), ([code(COUNT)] * 3, [2, 0, 1]), ([code("")] * 2, [1, 0])]:
            table = list(TABLE)
            told = [in_order(codes, table, order), in_order(codes, table, order)]
            expected = copy.deepcopy(told)
            lists = [table, order] + [one for papers, behind in told for one in (papers, behind)]
            lists += [part for papers, behind in told for one in papers for part in one[1:]]
            self.assertEqual(len({id(one) for one in lists}), len(lists))
            for one in lists[2:]:
                one.append("more")
            self.assertEqual([in_order(codes, table, order)] * 2, expected)

    def test_arguments_by_their_names_and_kinds_told(self):
        self.assertIs(keeps(papers=[paper([], [A])], order=[0]), True)
        told = in_order(codes=[code(COUNT)], table=TABLE, order=[0])
        kinds = [type(part) for part in (told, told[0], told[0][0], told[0][0][1], told[1], told[1][0])]
        self.assertEqual(kinds, [tuple, list, tuple, list, list, tuple])


if __name__ == "__main__":
    unittest.main()
