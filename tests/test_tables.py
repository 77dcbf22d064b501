"""[8], and [2] as far as it speaks of them: places, tables, gifts."""

import copy
import itertools
import unittest

from forerun.tables import laid_on, stands, table_of

MOST = 10 ** 30

# A table as told: shelves that begin one another or differ at one letter, numbers of all sizes.
TABLE = [
    (("a", -MOST), 1),
    (("a", -10), 2),
    (("a", -9), -MOST),
    (("a", -1), MOST),
    (("a", 0), 3),
    (("a", 1), -1),
    (("a", 9), 4),
    (("a", 10), 5),
    (("a", MOST), 6),
    (("aa", -5), 7),
    (("ab", 0), 8),
    (("abc", 0), 9),
    (("abd", -1), 10),
    (("b", -MOST), 11),
    (("ba", 2), 12),
    (("zzzzzz", 0), 13),
]
GIFTS = [(("b", 2), 5), (("a", 0), 0), (("b", 2), 6), (("a", 1), 8), (("c", 1), 0), (("a", -1), 0), (("a", -1), 9)]
BEHIND_GIFTS = TABLE[:3] + [(("a", -1), 9), (("a", 1), 8)] + TABLE[6:14] + [(("b", 2), 6)] + TABLE[14:]


def one_after_the_other(rows):
    """An own laying, place by place, to hold the program's against."""
    told = []
    for place, worth in rows:
        told = [row for row in told if row[0] != place]
        if worth != 0:
            told.append((place, worth))
    return sorted(told, key=lambda row: (row[0][0], row[0][1]))


class TableOf(unittest.TestCase):
    def test_no_rows(self):
        self.assertEqual(table_of([]), [])

    def test_a_table_is_its_own_table(self):
        self.assertEqual(table_of(TABLE), TABLE)

    def test_rows_in_any_order(self):
        self.assertEqual(table_of(TABLE[::-1]), TABLE)
        for start in range(len(TABLE)):
            self.assertEqual(table_of(TABLE[start:] + TABLE[:start]), TABLE)
            self.assertEqual(table_of(TABLE[start::-1] + TABLE[:start:-1]), TABLE)
        few = [TABLE[0], TABLE[3], TABLE[4], TABLE[10], TABLE[13]]
        for rows in itertools.permutations(few):
            self.assertEqual(table_of(list(rows)), few)

    def test_by_shelf_and_then_by_number(self):
        self.assertEqual(
            table_of([(("b", -5), 1), (("a", 10), 1), (("a", 9), 1), (("a", -9), 1), (("a", -10), 1)]),
            [(("a", -10), 1), (("a", -9), 1), (("a", 9), 1), (("a", 10), 1), (("b", -5), 1)],
        )

    def test_the_last_worth_stands(self):
        for worths in itertools.product([-1, 0, 1, MOST], repeat=3):
            rows = [(("a", 1), worth) for worth in worths]
            expected = [(("a", 1), worths[-1])] if worths[-1] != 0 else []
            self.assertEqual(table_of(rows), expected, worths)

    def test_the_last_worth_stands_among_others(self):
        rows = [(("a", 1), 5), (("b", 0), 2), (("a", 1), 3), (("b", 0), 0), (("a", 0), 0), (("a", 0), -4)]
        self.assertEqual(table_of(rows), [(("a", 0), -4), (("a", 1), 3)])

    def test_a_worth_of_0_is_not_told(self):
        self.assertEqual(table_of([(("a", 1), 0)]), [])
        self.assertEqual(table_of([(("a", 0), 0), (("a", 1), 1), (("b", 0), 0)]), [(("a", 1), 1)])

    def test_kinds_told(self):
        table = table_of(TABLE)
        self.assertIs(type(table), list)
        for row in table:
            self.assertEqual([type(row), type(row[0])], [tuple, tuple])
            self.assertEqual([len(row), len(row[0])], [2, 2])
            self.assertEqual([type(row[0][0]), type(row[0][1]), type(row[1])], [str, int, int])

    def test_three_hundred_rows(self):
        rows = [(("abcde"[k % 5], (k * 7919) % 101 - 50), k % 4 - 1) for k in range(300)]
        table = table_of(rows)
        self.assertEqual(table, one_after_the_other(rows))
        for (one, worth), (other, more) in zip(table, table[1:]):
            self.assertLess(one, other)
        self.assertNotIn(0, [worth for place, worth in table])

    def test_same_worths_same_list(self):
        self.assertEqual(table_of([(("a", 1), 2), (("b", 1), 0)]), table_of([(("a", 1), 0), (("a", 1), 2)]))

    def test_what_is_handed_in_stays(self):
        rows = list(reversed(GIFTS))
        before = copy.deepcopy(rows)
        table_of(rows)
        self.assertEqual(rows, before)

    def test_what_is_told_is_the_askers_own(self):
        rows = [(("a", 1), 2)]
        first, second = table_of(rows), table_of(rows)
        first.append((("b", 1), 3))
        self.assertEqual((rows, second), ([(("a", 1), 2)], [(("a", 1), 2)]))
        rows.clear()
        self.assertEqual(second, [(("a", 1), 2)])
        empty = table_of([])
        empty.append((("b", 1), 3))
        self.assertEqual(table_of([]), [])


class Stands(unittest.TestCase):
    def test_at_told_places(self):
        for place, worth in TABLE:
            self.assertEqual(stands(TABLE, place), worth)

    def test_beside_told_places(self):
        told = [place for place, worth in TABLE]
        for shelf, number in told:
            beside = [(shelf, number + 1), (shelf, number - 1), (shelf, -number), (shelf + "q", number), ("q", number)]
            for place in beside:
                if place not in told:
                    self.assertEqual(stands(TABLE, place), 0, place)

    def test_ahead_of_the_first_and_behind_the_last(self):
        table = [(("b", 1), 4)]
        for place in [("a", 1), ("b", 0), ("b", 2), ("c", 1), ("ba", 1), ("b", MOST), ("b", -MOST)]:
            self.assertEqual(stands(table, place), 0)

    def test_on_the_empty_table(self):
        self.assertEqual(stands([], ("a", 0)), 0)

    def test_kind_told_and_what_is_handed_in_stays(self):
        table = copy.deepcopy(TABLE)
        self.assertIs(type(stands(table, ("q", 5))), int)
        self.assertIs(type(stands(table, ("a", 0))), int)
        self.assertEqual(table, TABLE)


class LaidOn(unittest.TestCase):
    def test_laid_at_once(self):
        self.assertEqual(laid_on(TABLE, GIFTS), BEHIND_GIFTS)

    def test_laid_in_two_parts(self):
        for parted in range(len(GIFTS) + 1):
            amid = laid_on(TABLE, GIFTS[:parted])
            self.assertEqual(laid_on(amid, GIFTS[parted:]), BEHIND_GIFTS)

    def test_laid_twice(self):
        self.assertEqual(laid_on(BEHIND_GIFTS, GIFTS), BEHIND_GIFTS)

    def test_laid_one_after_the_other(self):
        self.assertEqual(laid_on([(("a", 1), 4)], [(("a", 1), 0), (("a", 1), 5)]), [(("a", 1), 5)])
        self.assertEqual(laid_on([(("a", 1), 4)], [(("a", 1), 5), (("a", 1), 0)]), [])

    def test_no_gifts(self):
        self.assertEqual(laid_on(TABLE, []), TABLE)
        self.assertEqual(laid_on([], []), [])

    def test_on_the_empty_table(self):
        self.assertEqual(laid_on([], GIFTS), [(("a", -1), 9), (("a", 1), 8), (("b", 2), 6)])
        self.assertEqual(laid_on([], [(("a", 1), 0)]), [])

    def test_each_gift_puts_its_worth_at_its_place_alone(self):
        for place, worth in TABLE:
            others = [row for row in TABLE if row[0] != place]
            self.assertEqual(laid_on(TABLE, [(place, 0)]), others)
            self.assertEqual(laid_on(others, [(place, worth)]), TABLE)

    def test_as_an_own_laying(self):
        rows = [(("abcde"[k % 5], (k * 7919) % 31 - 15), k % 5 - 2) for k in range(300)]
        for parted in (0, 1, 150, 299, 300):
            table = one_after_the_other(rows[:parted])
            self.assertEqual(laid_on(table, rows[parted:]), one_after_the_other(rows))

    def test_table_and_gifts_stay(self):
        table, gifts = copy.deepcopy(TABLE), copy.deepcopy(GIFTS)
        told = laid_on(table, gifts)
        self.assertEqual((table, gifts), (TABLE, GIFTS))
        told.clear()
        self.assertEqual((table, gifts), (TABLE, GIFTS))

    def test_what_is_told_is_the_askers_own(self):
        table, gifts = copy.deepcopy(TABLE), copy.deepcopy(GIFTS)
        for told in (laid_on(table, []), laid_on([], table), laid_on(table, gifts)):
            self.assertIs(type(told), list)
            told.append((("z", 0), 1))
            self.assertEqual((table, gifts), (TABLE, GIFTS))
        told = laid_on(table, gifts)
        table.clear()
        gifts.clear()
        self.assertEqual(told, BEHIND_GIFTS)


if __name__ == "__main__":
    unittest.main()
