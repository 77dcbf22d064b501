"""[17], [18], and [2] as far as it speaks of them: makes over a table."""

import copy
import random
import unittest

from forerun.codes import code_of
from forerun.errors import Folded, ForerunError
from forerun.makes import Makes
from forerun.plain import one_by_one
from forerun.runs import Run
from making import Maker, OwnMakes

MOST = 10 ** 30
TOP = 10 ** 29
A, B, C, D = ("a", 0), ("a", 1), ("b", -1), ("b", MOST)
PLACES = [A, B, C, D, ("ab", 0), ("silver", -MOST)]
GROUND = [(A, 7), (C, -2), (D, MOST)]


class Seen(unittest.TestCase):
    def sees(self, makes, place, expected):
        """expected: a dict from ranks to what they see there."""
        self.assertEqual({rank: makes.seen(place, rank) for rank in expected}, expected)

    def test_the_ground_where_there_are_no_makes(self):
        makes = Makes(GROUND)
        for rank in (0, 1, 5, TOP, TOP + 1):
            self.assertEqual([makes.seen(place, rank) for place in PLACES], [7, 0, -2, MOST, 0, 0])
        self.assertEqual(makes.kept(), 0)
        self.assertEqual(Makes([]).seen(A, 3), 0)

    def test_ranks_below_at_and_above_a_make(self):
        makes = Makes(GROUND)
        makes.lay(3, [(A, 5), (B, 6)])
        self.sees(makes, A, {0: 7, 2: 7, 3: 7, 4: 5, 5: 5, TOP: 5})
        self.sees(makes, B, {0: 0, 2: 0, 3: 0, 4: 6, 5: 6, TOP: 6})
        self.sees(makes, C, {0: -2, 3: -2, 4: -2, TOP: -2})
        self.sees(makes, ("ab", 0), {0: 0, 3: 0, 4: 0, TOP: 0})

    def test_the_highest_rank_below(self):
        for order in [(2, 5, 9), (9, 5, 2), (5, 9, 2), (9, 2, 5)]:
            makes = Makes(GROUND)
            for rank in order:
                makes.lay(rank, [(A, 10 + rank)])
            self.sees(makes, A, {0: 7, 1: 7, 2: 7, 3: 12, 4: 12, 5: 12, 6: 15, 8: 15, 9: 15, 10: 19, TOP: 19})

    def test_a_rank_of_0(self):
        makes = Makes(GROUND)
        makes.lay(0, [(A, 1), (B, 2)])
        self.sees(makes, A, {0: 7, 1: 1, 2: 1})
        self.sees(makes, B, {0: 0, 1: 2})

    def test_worths_of_0(self):
        makes = Makes(GROUND)
        makes.lay(1, [(A, 0), (B, 0)])
        self.sees(makes, A, {0: 7, 1: 7, 2: 0, 9: 0})
        self.assertEqual(makes.kept(), 2)
        makes.lay(4, [(A, 3), (B, 3)])
        makes.lay(6, [(A, 0)])
        self.sees(makes, A, {1: 7, 2: 0, 4: 0, 5: 3, 6: 3, 7: 0})
        self.sees(makes, B, {2: 0, 4: 0, 5: 3, 7: 3})
        self.assertEqual(makes.kept(), 5)

    def test_places_beside(self):
        makes = Makes([])
        makes.lay(0, [(("a", 0), 1)])
        for place in [("a", 1), ("a", -1), ("b", 0), ("aa", 0)]:
            self.assertEqual(makes.seen(place, 9), 0)

    def test_large_ranks(self):
        makes = Makes(GROUND)
        makes.lay(TOP, [(A, 3)])
        makes.lay(TOP - 1, [(A, 2)])
        makes.lay(TOP // 2, [(A, 1)])
        self.sees(makes, A, {0: 7, TOP // 2: 7, TOP // 2 + 1: 1, TOP - 1: 1, TOP: 2, TOP + 1: 3})

    def test_many_ranks_at_one_place(self):
        ranks = [7 * k for k in range(300)]
        random.Random(5).shuffle(ranks)
        makes = Makes(GROUND)
        for rank in ranks:
            makes.lay(rank, [(A, rank + 1)])
        for rank in range(2100):
            self.assertEqual(makes.seen(A, rank), 7 if rank == 0 else (rank - 1) // 7 * 7 + 1)
        self.assertEqual(makes.kept(), 300)

    def test_asking_changes_nothing(self):
        makes = Makes(GROUND)
        makes.lay(2, [(A, 5)])
        for place in PLACES:
            for rank in (0, 3, TOP):
                makes.seen(place, rank)
                makes.table_for(rank)
        self.assertEqual(makes.kept(), 1)
        self.assertEqual(makes.table_for(2), GROUND)
        makes.lay(0, [(B, 1)])
        self.assertEqual(makes.seen(B, 1), 1)

    def test_arguments_by_their_names_and_kinds_told(self):
        makes = Makes(table=GROUND)
        self.assertIsNone(makes.lay(rank=1, gifts=[(A, 5)]))
        self.assertEqual((makes.seen(place=A, rank=2), makes.table_for(rank=1)), (5, GROUND))
        self.assertIsNone(makes.fold(rank=1))
        self.assertEqual([type(makes.seen(B, 2)), type(makes.kept()), type(makes.table_for(2))], [int, int, list])
        row = makes.table_for(2)[0]
        self.assertEqual([type(part) for part in (row, row[0], row[1])], [tuple, tuple, int])


class Lay(unittest.TestCase):
    def laid(self):
        makes = Makes(GROUND)
        makes.lay(1, [(A, 11), (B, 12)])
        makes.lay(3, [(A, 31), (B, 32), (C, 33)])
        makes.lay(5, [(A, 51), (C, 53)])
        return makes

    def test_many_makes(self):
        makes = self.laid()
        self.assertEqual([makes.seen(A, rank) for rank in range(7)], [7, 7, 11, 11, 31, 31, 51])
        self.assertEqual([makes.seen(B, rank) for rank in range(7)], [0, 0, 12, 12, 32, 32, 32])
        self.assertEqual([makes.seen(C, rank) for rank in range(7)], [-2, -2, -2, -2, 33, 33, 53])
        self.assertEqual(makes.kept(), 7)

    def test_anew_with_other_places(self):
        makes = self.laid()
        makes.lay(3, [(D, 34), (("ab", 0), 35)])
        self.assertEqual([makes.seen(A, rank) for rank in range(7)], [7, 7, 11, 11, 11, 11, 51])
        self.assertEqual([makes.seen(B, rank) for rank in range(7)], [0, 0, 12, 12, 12, 12, 12])
        self.assertEqual([makes.seen(C, rank) for rank in range(7)], [-2, -2, -2, -2, -2, -2, 53])
        self.assertEqual([makes.seen(D, rank) for rank in (3, 4, 5)], [MOST, 34, 34])
        self.assertEqual([makes.seen(("ab", 0), rank) for rank in (3, 4, 5)], [0, 35, 35])
        self.assertEqual(makes.kept(), 6)

    def test_anew_with_fewer_places(self):
        makes = self.laid()
        makes.lay(3, [(B, 0)])
        self.assertEqual([makes.seen(A, rank) for rank in range(7)], [7, 7, 11, 11, 11, 11, 51])
        self.assertEqual([makes.seen(B, rank) for rank in range(7)], [0, 0, 12, 12, 0, 0, 0])
        self.assertEqual(makes.kept(), 5)

    def test_anew_with_none(self):
        makes = self.laid()
        makes.lay(3, [])
        self.assertEqual([makes.seen(C, rank) for rank in range(7)], [-2, -2, -2, -2, -2, -2, 53])
        self.assertEqual(makes.kept(), 4)
        makes.lay(1, [])
        makes.lay(5, [])
        self.assertEqual(makes.kept(), 0)
        for rank in range(7):
            self.assertEqual(makes.table_for(rank), GROUND)
        makes.lay(3, [])
        makes.lay(4, [])
        self.assertEqual(makes.kept(), 0)

    def test_anew_with_the_same(self):
        makes = self.laid()
        for k in range(3):
            makes.lay(3, [(A, 31), (B, 32), (C, 33)])
        self.assertEqual(makes.kept(), 7)
        makes.lay(3, [(A, 61), (B, 62), (C, 63)])
        self.assertEqual([makes.seen(place, 4) for place in (A, B, C)], [61, 62, 63])
        self.assertEqual([makes.seen(A, rank) for rank in range(7)], [7, 7, 11, 11, 61, 61, 51])
        self.assertEqual(makes.kept(), 7)

    def test_none_and_then_some_again(self):
        makes = self.laid()
        makes.lay(3, [])
        makes.lay(3, [(A, 8)])
        self.assertEqual([makes.seen(A, rank) for rank in range(7)], [7, 7, 11, 11, 8, 8, 51])
        self.assertEqual(makes.kept(), 5)

    def test_gifts_in_any_order(self):
        gifts = [(D, 1), (A, 2), (("silver", 4), 0), (C, 3), (B, 4)]
        for turn in range(5):
            for some in (gifts[turn:] + gifts[:turn], list(reversed(gifts[turn:] + gifts[:turn]))):
                makes = Makes(GROUND)
                makes.lay(2, some)
                self.assertEqual(makes.table_for(3), [(A, 2), (B, 4), (C, 3), (D, 1)])
                self.assertEqual((makes.table_for(2), makes.kept()), (GROUND, 5))

    def test_what_is_handed_in_stays(self):
        table, gifts = copy.deepcopy(GROUND), [(C, 3), (A, 0)]
        makes = Makes(table)
        makes.lay(1, gifts)
        makes.lay(1, [(B, 1)])
        makes.lay(2, gifts)
        makes.fold(3)
        makes.lay(4, gifts)
        self.assertEqual((table, gifts), (GROUND, [(C, 3), (A, 0)]))

    def test_what_becomes_of_it_changes_nothing(self):
        table, gifts, others = copy.deepcopy(GROUND), [(C, 3), (A, 0)], [(A, 1)]
        makes = Makes(table)
        makes.lay(1, gifts)
        makes.lay(2, others)
        expected = [makes.table_for(rank) for rank in range(4)]
        table.clear()
        gifts[0] = (C, 9)
        gifts.append((B, 4))
        others.clear()
        self.assertEqual([makes.table_for(rank) for rank in range(4)], expected)
        self.assertEqual((makes.kept(), makes.seen(C, 2), makes.seen(B, 2)), (3, 3, 0))
        makes.lay(1, [])
        self.assertEqual((makes.kept(), makes.table_for(2)), (1, GROUND))

    def test_one_list_laid_for_two_ranks(self):
        makes, gifts = Makes([]), [(A, 1)]
        makes.lay(1, gifts)
        makes.lay(2, gifts)
        makes.lay(1, [(A, 5)])
        self.assertEqual([makes.seen(A, rank) for rank in range(4)], [0, 0, 5, 1])

    def test_makes_of_one_table_know_nothing_of_one_another(self):
        table = copy.deepcopy(GROUND)
        one, other = Makes(table), Makes(table)
        one.lay(0, [(A, 1)])
        one.fold(2)
        self.assertEqual((other.seen(A, 1), other.table_for(1), other.kept()), (7, GROUND, 0))


class Tables(unittest.TestCase):
    def test_at_all_ranks(self):
        makes = Makes(GROUND)
        makes.lay(1, [(A, 0), (B, 4)])
        makes.lay(3, [(("ab", 0), 5), (B, 0), (C, 9)])
        self.assertEqual([makes.table_for(0), makes.table_for(1)], [GROUND, GROUND])
        self.assertEqual([makes.table_for(2), makes.table_for(3)], [[(B, 4), (C, -2), (D, MOST)]] * 2)
        for rank in (4, 5, TOP):
            self.assertEqual(makes.table_for(rank), [(("ab", 0), 5), (C, 9), (D, MOST)])

    def test_sorted_by_shelf_and_then_by_number(self):
        makes = Makes([(("b", 2), 1)])
        makes.lay(0, [(("b", 10), 1), (("a", 5), 1), (("b", -3), 1), (("aa", 0), 1), (("a", -5), 1)])
        self.assertEqual(
            [place for place, worth in makes.table_for(1)],
            [("a", -5), ("a", 5), ("aa", 0), ("b", -3), ("b", 2), ("b", 10)],
        )

    def test_of_the_empty_table(self):
        makes = Makes([])
        self.assertEqual(makes.table_for(0), [])
        makes.lay(0, [(A, 0)])
        self.assertEqual((makes.table_for(1), makes.kept()), ([], 1))

    def test_each_is_the_askers_own(self):
        makes = Makes(GROUND)
        makes.lay(1, [(B, 4)])
        for rank in (0, 2):
            one, other = makes.table_for(rank), makes.table_for(rank)
            self.assertIsNot(one, other)
            expected = list(other)
            one.append((("z", 0), 1))
            one[0] = (A, 99)
            self.assertEqual((other, makes.table_for(rank)), (expected, expected))
        makes.fold(2)
        told = makes.table_for(2)
        expected = list(told)
        told.clear()
        self.assertEqual(makes.table_for(2), expected)

    def test_nothing_done_later_changes_them(self):
        makes = Makes(GROUND)
        makes.lay(1, [(B, 4)])
        told = makes.table_for(2)
        makes.lay(1, [(A, 9)])
        makes.lay(0, [(C, 9)])
        makes.fold(5)
        makes.lay(6, [(D, 1)])
        self.assertEqual(told, [(A, 7), (B, 4), (C, -2), (D, MOST)])


class Fold(unittest.TestCase):
    def laid(self):
        makes = Makes(GROUND)
        makes.lay(1, [(A, 0), (B, 12)])
        makes.lay(3, [(A, 31), (C, 33)])
        makes.lay(5, [(A, 51), (B, 0), (D, 54)])
        return makes

    def all_seen(self, makes, first):
        ranks = [rank for rank in (0, 1, 2, 3, 4, 5, 6, 7, TOP, TOP + 1) if rank >= first]
        return [[makes.seen(place, rank) for place in PLACES] + [makes.table_for(rank)] for rank in ranks]

    def refuses(self, makes, rank):
        before, kept = self.all_seen(makes, rank + 1), makes.kept()
        for asked in [
            lambda: makes.seen(A, rank), lambda: makes.seen(("q", 0), rank), lambda: makes.table_for(rank),
            lambda: makes.lay(rank, [(A, 1), (B, 2)]), lambda: makes.lay(rank, []), lambda: makes.fold(rank),
        ]:
            with self.assertRaises(Folded) as caught:
                asked()
            self.assertIsInstance(caught.exception, ForerunError)
            self.assertEqual((self.all_seen(makes, rank + 1), makes.kept()), (before, kept))

    def test_who_sees_from_that_rank_on_sees_what_they_saw(self):
        for rank, kept in [(0, 7), (1, 7), (2, 5), (3, 5), (4, 3), (5, 3), (6, 0), (7, 0), (TOP, 0), (TOP + 1, 0)]:
            makes = self.laid()
            before = self.all_seen(makes, rank)
            makes.fold(rank)
            self.assertEqual((self.all_seen(makes, rank), makes.kept()), (before, kept))

    def test_below_that_rank_all_is_refused(self):
        for rank in (1, 2, 3, 6, 7):
            makes = self.laid()
            makes.fold(rank)
            for lower in range(rank):
                with self.assertRaises(Folded):
                    makes.seen(A, lower)
            self.refuses(makes, rank - 1)

    def test_refused_where_nothing_stands_at_all(self):
        makes = Makes([])
        makes.fold(2)
        self.refuses(makes, 1)
        self.assertEqual(makes.table_for(2), [])

    def test_at_first_they_are_folded_to_0(self):
        makes = self.laid()
        before = self.all_seen(makes, 0)
        makes.fold(0)
        makes.fold(0)
        self.assertEqual((self.all_seen(makes, 0), makes.kept()), (before, 7))

    def test_ranks_of_very_many_figures_are_refused_alike(self):
        for great in (10 ** 60, 10 ** 4300, 10 ** 5000, 10 ** 20000):
            self.refuses(self.laid(), -great)
            makes = self.laid()
            makes.fold(great)
            self.refuses(makes, great - 1)

    def test_again_to_the_same_rank(self):
        makes = self.laid()
        makes.fold(4)
        before = self.all_seen(makes, 4)
        makes.fold(4)
        self.assertEqual((self.all_seen(makes, 4), makes.kept()), (before, 3))
        self.refuses(makes, 3)

    def test_to_a_higher_rank(self):
        makes = self.laid()
        before = self.all_seen(makes, 6)
        for rank in (2, 4, 5, 6):
            makes.fold(rank)
            self.assertEqual(self.all_seen(makes, 6), before)
            self.refuses(makes, rank - 1)
        self.assertEqual((makes.kept(), makes.table_for(6)), (0, [(A, 51), (C, 33), (D, 54)]))

    def test_laying_behind_a_fold(self):
        makes = self.laid()
        makes.fold(3)
        makes.lay(3, [(B, 8)])
        self.assertEqual([makes.seen(A, rank) for rank in (3, 4, 5, 6)], [0, 0, 0, 51])
        self.assertEqual([makes.seen(B, rank) for rank in (3, 4, 5, 6)], [12, 8, 8, 0])
        self.assertEqual([makes.seen(C, rank) for rank in (3, 4, 5, 6)], [-2, -2, -2, -2])
        self.assertEqual(makes.kept(), 4)
        makes.lay(3, [])
        makes.lay(5, [])
        for rank in (3, 4, 6, TOP):
            self.assertEqual(makes.table_for(rank), [(B, 12), (C, -2), (D, MOST)])
        self.assertEqual(makes.kept(), 0)

    def test_a_worth_of_0_folded_into_the_ground(self):
        makes = Makes(GROUND)
        makes.lay(0, [(A, 0), (B, 0)])
        makes.fold(1)
        self.assertEqual((makes.seen(A, 1), makes.seen(B, 1)), (0, 0))
        self.assertEqual(makes.table_for(1), [(C, -2), (D, MOST)])

    def test_large_ranks(self):
        makes = Makes(GROUND)
        makes.lay(TOP - 1, [(A, 1)])
        makes.lay(TOP, [(A, 2)])
        makes.fold(TOP)
        self.assertEqual((makes.seen(A, TOP), makes.seen(A, TOP + 1), makes.kept()), (1, 2, 1))
        for lower in (0, 1, TOP - 1):
            with self.assertRaises(Folded):
                makes.seen(A, lower)
        makes.lay(TOP, [(B, 2)])
        self.assertEqual((makes.seen(A, TOP + 1), makes.seen(B, TOP + 1)), (1, 2))
        makes.fold(TOP + 1)
        self.assertEqual((makes.kept(), makes.table_for(TOP + 1)), (0, [(A, 1), (B, 2), (C, -2), (D, MOST)]))
        self.refuses(makes, TOP)


class MadeUp(unittest.TestCase):
    def told(self, makes, ranks):
        """What all ranks are told, refusals too."""
        found = [makes.kept()]
        for rank in ranks:
            for ask in [lambda: makes.table_for(rank)] + [lambda at=place: makes.seen(at, rank) for place in PLACES]:
                try:
                    found.append(ask())
                except Folded:
                    found.append("folded")
        return found

    def done(self, makes, deed, rank, gifts):
        try:
            return makes.lay(rank, gifts) if deed == "lay" else makes.fold(rank)
        except Folded:
            return "folded"

    def test_rows_of_deeds_against_own_makes(self):
        chance = random.Random(17711)
        for k in range(60):
            table = sorted((place, chance.choice([-1, 3, MOST])) for place in PLACES if chance.randrange(2))
            base = chance.choice([0, 0, TOP - 5])
            makes, own = Makes(table), OwnMakes(table)
            for each in range(40):
                rank = base + chance.randrange(7)
                some = chance.sample(PLACES, chance.randrange(len(PLACES)))
                gifts = [(place, chance.choice([0, 0, 1, -4, MOST])) for place in some]
                deed = "fold" if chance.randrange(8) == 0 else "lay"
                self.assertEqual(self.done(makes, deed, rank, gifts), self.done(own, deed, rank, gifts))
                ranks = range(base, base + 9)
                self.assertEqual(self.told(makes, ranks), self.told(own, ranks))

    def test_papers_laid_rank_by_rank_make_the_tables_of_one_by_one(self):
        maker = Maker(28657)
        for k in range(30):
            dealings, table = [maker.dealing(maker.one_of([2, 4, 7, 12]))[1] for each in range(15)], maker.table()
            makes = Makes(table)
            for rank, rows in enumerate(dealings):
                run = Run(code_of(rows))
                while not run.over():
                    place = run.asks()
                    run.step(0 if place is None else makes.seen(place, rank))
                makes.lay(rank, run.paper()[2])
            for many in range(len(dealings) + 1):
                self.assertEqual(makes.table_for(many), one_by_one(dealings[:many], table)[1])


if __name__ == "__main__":
    unittest.main()
