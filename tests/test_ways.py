"""[19], and [2] as far as it speaks of it: ways."""

import random
import unittest

from forerun.ways import Highest, Turning, Way
from making import WAYS

TOP = 10 ** 29
LISTS = [[0], [5], [TOP], [0, 1], [3, 9], [0, 1, 2], [2, 3, 5, 7, 11, TOP - 1, TOP], list(range(300))]


class Ways(unittest.TestCase):
    def test_way_chooses_the_lowest(self):
        way = Way()
        for ranks in LISTS * 3:
            self.assertEqual(way.chosen(ranks), min(ranks))

    def test_highest_chooses_the_highest(self):
        way = Highest()
        for ranks in LISTS * 3:
            self.assertEqual(way.chosen(ranks), max(ranks))

    def test_turning_goes_through_the_places(self):
        way = Turning()
        self.assertEqual([way.chosen([4, 6, 9]) for k in range(8)], [4, 6, 9, 4, 6, 9, 4, 6])
        way = Turning()
        self.assertEqual([way.chosen([4, 6]) for k in range(5)], [4, 6, 4, 6, 4])

    def test_turning_at_one_rank(self):
        way = Turning()
        self.assertEqual([way.chosen([7]) for k in range(4)], [7] * 4)
        self.assertEqual(way.chosen([10, 11, 12, 13, 14, 15]), 14)

    def test_turning_counts_each_choice_whatever_the_list_was(self):
        way = Turning()
        told = [way.chosen(ranks) for ranks in ([1], [1, 2], [1, 2, 3], [1, 2], [8, 9, 10, 11, 12], [3], [0, 1, 2, 3])]
        self.assertEqual(told, [1, 2, 3, 2, 12, 3, 2])
        way = Turning()
        self.assertEqual([way.chosen([k, k + 1, k + 2]) for k in range(7)], [0, 2, 4, 3, 5, 7, 6])

    def test_turning_many_times(self):
        way = Turning()
        for often in range(1000):
            ranks = list(range(5, 5 + 1 + often * 7 % 13))
            self.assertEqual(way.chosen(ranks), 5 + often % len(ranks))

    def test_two_turnings_count_apart(self):
        one, other = Turning(), Turning()
        self.assertEqual([one.chosen([1, 2, 3]) for k in range(2)], [1, 2])
        self.assertEqual([other.chosen([1, 2, 3]) for k in range(4)], [1, 2, 3, 1])
        self.assertEqual([one.chosen([1, 2, 3]), other.chosen([1, 2, 3])], [3, 2])
        self.assertEqual(Turning().chosen([1, 2, 3]), 1)

    def test_the_list_handed_in_stays(self):
        for kind, choose in WAYS:
            way = kind()
            for ranks in LISTS * 2:
                before = list(ranks)
                way.chosen(ranks)
                self.assertEqual(ranks, before)

    def test_what_becomes_of_the_list_changes_nothing(self):
        for kind, choose in WAYS:
            way, ranks = kind(), [1, 2, 3]
            self.assertEqual(way.chosen(ranks), choose([1, 2, 3], 0))
            ranks.clear()
            self.assertEqual(way.chosen([4, 5, 6]), choose([4, 5, 6], 1))

    def test_made_up_lists(self):
        chance = random.Random(46368)
        for kind, choose in WAYS:
            way = kind()
            for often in range(300):
                ranks = sorted(chance.sample(range(400), chance.randrange(1, 30)))
                self.assertEqual(way.chosen(ranks), choose(ranks, often))

    def test_the_classes(self):
        for kind, choose in WAYS:
            self.assertIsInstance(kind(), Way)
            self.assertEqual(kind().chosen(ranks=[2]), 2)
            self.assertIs(type(kind().chosen([2, 3])), int)
        self.assertFalse(issubclass(Highest, Turning) or issubclass(Turning, Highest))


if __name__ == "__main__":
    unittest.main()
