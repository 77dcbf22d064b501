"""[7], and [2] as far as it speaks of it: the worth of a term."""

import math
import unittest
from fractions import Fraction

from forerun.errors import ForerunError, Great, Nought
from forerun.terms import reckoned, term_from

MOST = 10 ** 30

NUMBERS = [0, 1, -1, 2, -2, 3, -3, 7, -7, 10, -10, 2 ** 53 + 1, -(2 ** 64) - 1, 10 ** 15, -(10 ** 15)]
ENDS = [MOST, MOST - 1, -MOST, -MOST + 1, MOST // 3, -MOST // 3, MOST // 2 + 1]


def wanted(word, first, second):
    """What [7] asks, by exact fractions; None where it refuses."""
    if word in ("over", "rest"):
        if second == 0:
            return None
        over = math.floor(Fraction(first, second))
        return over if word == "over" else first - over * second
    worth = {
        "plus": first + second,
        "minus": first - second,
        "times": first * second,
        "under": int(first < second),
        "same": int(first == second),
    }[word]
    return worth if -MOST <= worth <= MOST else None


def of(text, slots=None):
    words = text.split(" ")
    term, behind = term_from(words, 0)
    assert behind == len(words)
    return reckoned(term, slots or {})


class Parts(unittest.TestCase):
    def test_a_number_by_itself(self):
        for number in NUMBERS + ENDS:
            self.assertEqual(reckoned((number,), {}), number)

    def test_a_slot_by_itself(self):
        for number in NUMBERS + ENDS:
            self.assertEqual(reckoned(("x",), {"x": number, "y": 5}), number)

    def test_a_name_that_is_no_slot(self):
        self.assertEqual(reckoned(("x",), {}), 0)
        self.assertEqual(reckoned(("x",), {"y": 5, "xx": 6}), 0)
        self.assertEqual(reckoned(("x", 3, "plus"), {}), 3)
        self.assertEqual(reckoned((3, "x", "minus"), {"y": 9}), 3)
        self.assertEqual(reckoned(("x", "y", "same"), {}), 1)

    def test_a_name_that_is_no_slot_divides_nothing(self):
        with self.assertRaises(Nought):
            reckoned((3, "x", "over"), {})

    def test_arguments_by_their_names(self):
        self.assertEqual(reckoned(term=("x",), slots={"x": 4}), 4)


class TheSevenWords(unittest.TestCase):
    def test_told_examples(self):
        examples = {
            "plus 2 3": 5, "plus -2 3": 1, "plus -2 -3": -5,
            "minus 2 3": -1, "minus 3 2": 1, "minus -2 -3": 1, "minus -2 3": -5,
            "times 2 3": 6, "times -2 3": -6, "times -2 -3": 6, "times 0 -3": 0,
            "over 7 2": 3, "over -7 2": -4, "over 7 -2": -4, "over -7 -2": 3,
            "rest 7 2": 1, "rest -7 2": 1, "rest 7 -2": -1, "rest -7 -2": -1,
            "over 6 2": 3, "over -6 2": -3, "over 6 -2": -3, "over -6 -2": 3,
            "rest 6 2": 0, "rest -6 2": 0, "rest 6 -2": 0, "rest -6 -2": 0,
            "over 0 5": 0, "over 0 -5": 0, "rest 0 5": 0, "rest 0 -5": 0,
            "over 1 5": 0, "over -1 5": -1, "over 1 -5": -1, "over -1 -5": 0,
            "rest 1 5": 1, "rest -1 5": 4, "rest 1 -5": -4, "rest -1 -5": -1,
            "under 2 3": 1, "under 3 2": 0, "under 2 2": 0, "under -3 -2": 1, "under -2 -3": 0, "under -1 1": 1,
            "same 2 2": 1, "same 2 3": 0, "same -2 2": 0, "same 0 0": 1, "same -3 -3": 1,
        }
        for text, worth in examples.items():
            with self.subTest(text=text):
                self.assertEqual(of(text), worth)

    def test_all_pairs(self):
        for word in ("plus", "minus", "times", "over", "rest", "under", "same"):
            for first in NUMBERS + ENDS:
                for second in NUMBERS + ENDS:
                    worth = wanted(word, first, second)
                    with self.subTest(word=word, first=first, second=second):
                        if worth is None:
                            with self.assertRaises(Nought if word in ("over", "rest") else Great):
                                reckoned((first, second, word), {})
                        else:
                            self.assertEqual(reckoned((first, second, word), {}), worth)
                            self.assertEqual(reckoned(("a", "b", word), {"a": first, "b": second}), worth)

    def test_over_and_rest_at_the_ends_are_exact(self):
        self.assertEqual(of(f"over {MOST} 1"), MOST)
        self.assertEqual(of(f"over {-MOST} -1"), MOST)
        self.assertEqual(of(f"over {MOST} -1"), -MOST)
        self.assertEqual(of(f"over -1 {MOST}"), -1)
        self.assertEqual(of(f"over 1 {-MOST}"), -1)
        self.assertEqual(of(f"over {MOST} 3"), int("3" * 30))
        self.assertEqual(of(f"over {-MOST} 3"), -int("3" * 30) - 1)
        self.assertEqual(of(f"rest {MOST} 3"), 1)
        self.assertEqual(of(f"rest -1 {MOST}"), MOST - 1)
        self.assertEqual(of(f"rest 1 {-MOST}"), -MOST + 1)
        self.assertEqual(of(f"rest {MOST - 1} {MOST}"), MOST - 1)

    def test_terms_within_terms(self):
        slots = {"x": 3, "y": 5}
        self.assertEqual(of("plus x times 2 y", slots), 13)
        self.assertEqual(of("times plus x 2 y", slots), 25)
        self.assertEqual(of("minus minus 10 x y", slots), 2)
        self.assertEqual(of("minus 10 minus x y", slots), 12)
        self.assertEqual(of("over over 100 y x", slots), 6)
        self.assertEqual(of("over 100 over y x", slots), 100)
        self.assertEqual(of("same under x y under y x", slots), 0)
        self.assertEqual(of("plus same x 3 same y 5", slots), 2)

    def test_the_longest_terms(self):
        self.assertEqual(of(" ".join(["plus"] * 29 + ["2"] * 30)), 60)
        self.assertEqual(of(" ".join(["minus", "1"] * 29 + ["5"])), 1 - 5)
        self.assertEqual(of(" ".join(["times"] * 29 + ["10"] * 30)), MOST)


class KindsAndWhatStays(unittest.TestCase):
    def test_no_truth_is_told(self):
        for text in ("under 1 2", "under 2 1", "same 1 1", "same 1 2", "plus under 1 2 0", "over 5 5", "rest 5 5"):
            with self.subTest(text=text):
                self.assertIs(type(of(text)), int)

    def test_the_slots_stay(self):
        slots = {"x": 3, "y": 5}
        reckoned(("x", "z", "plus", "w", "minus"), slots)
        self.assertEqual(list(slots.items()), [("x", 3), ("y", 5)])

    def test_the_slots_stay_where_it_is_refused(self):
        slots = {"x": MOST}
        for term in (("x", "x", "plus"), ("x", "z", "over")):
            with self.assertRaises(ForerunError):
                reckoned(term, slots)
            self.assertEqual(slots, {"x": MOST})

    def test_asked_again_it_tells_the_same(self):
        term = ("x", 2, "times")
        slots = {"x": 4}
        self.assertEqual([reckoned(term, slots), reckoned(term, slots)], [8, 8])
        slots["x"] = 5
        self.assertEqual(reckoned(term, slots), 10)


class NoughtRefused(unittest.TestCase):
    def test_by_nought(self):
        for word in ("over", "rest"):
            for first in NUMBERS + ENDS:
                with self.subTest(word=word, first=first):
                    with self.assertRaises(Nought):
                        reckoned((first, 0, word), {})
                    with self.assertRaises(Nought):
                        reckoned((first, "x", word), {"x": 0})

    def test_by_a_part_that_comes_to_nought(self):
        for text in ("over 1 minus 5 5", "rest 1 under 2 1", "over 0 same 1 2", "rest 0 times 0 7"):
            with self.subTest(text=text), self.assertRaises(Nought):
                of(text)

    def test_nought_as_the_first_part_is_fine(self):
        self.assertEqual((of("over 0 7"), of("rest 0 7")), (0, 0))


class GreatRefused(unittest.TestCase):
    def great(self, text, slots=None):
        with self.subTest(text=text), self.assertRaises(Great):
            of(text, slots)

    def test_plus(self):
        self.assertEqual(of(f"plus {MOST - 1} 1"), MOST)
        self.assertEqual(of(f"plus {-MOST + 1} -1"), -MOST)
        self.assertEqual(of(f"plus {MOST} 0"), MOST)
        self.great(f"plus {MOST} 1")
        self.great(f"plus 1 {MOST}")
        self.great(f"plus {-MOST} -1")
        self.great(f"plus {MOST} {MOST}")
        self.great(f"plus {-MOST} {-MOST}")

    def test_minus(self):
        self.assertEqual(of(f"minus {MOST - 1} -1"), MOST)
        self.assertEqual(of(f"minus {-MOST + 1} 1"), -MOST)
        self.assertEqual(of(f"minus {MOST} {MOST}"), 0)
        self.great(f"minus {MOST} -1")
        self.great(f"minus {-MOST} 1")
        self.great(f"minus 1 {-MOST}")
        self.great(f"minus {-MOST} {MOST}")

    def test_times(self):
        self.assertEqual(of(f"times {10 ** 15} {10 ** 15}"), MOST)
        self.assertEqual(of(f"times {10 ** 15} {-10 ** 15}"), -MOST)
        self.assertEqual(of(f"times {MOST} -1"), -MOST)
        self.assertEqual(of(f"times {-MOST} -1"), MOST)
        self.great(f"times {10 ** 15} {10 ** 15 + 1}")
        self.great(f"times {10 ** 15} {-10 ** 15 - 1}")
        self.great(f"times {MOST} {MOST}")
        self.great(f"times {MOST} 2")

    def test_times_one_beyond_the_ends(self):
        other = (MOST + 1) // 101
        self.assertEqual(101 * other, MOST + 1)
        self.great(f"times 101 {other}")
        self.great(f"times -101 {other}")

    def test_slots_too(self):
        self.great("plus x y", {"x": MOST, "y": 1})
        self.great("times x x", {"x": 10 ** 16})

    def test_within_a_term_that_would_come_back(self):
        self.great(f"minus plus {MOST} 1 1")
        self.great(f"over times {MOST} 2 2")
        self.great(f"times 0 plus {MOST} 1")
        self.great(f"under plus {MOST} 1 0")
        self.great(f"rest plus {MOST} 1 7")


class WhichIsDueFirst(unittest.TestCase):
    def refusal(self, text):
        try:
            of(text)
        except ForerunError as refused:
            return type(refused)
        return None

    def test_in_a_term_with_several(self):
        great, nought = f"plus {MOST} 1", "over 1 0"
        below = f"minus {-MOST} 1"
        cases = {
            f"plus {great} {nought}": Great,
            f"plus {nought} {great}": Nought,
            f"over {great} {nought}": Great,
            f"rest {nought} {great}": Nought,
            f"over {great} 0": Great,
            f"rest {below} 0": Great,
            f"over 1 {great}": Great,
            f"over {nought} 0": Nought,
            f"rest {MOST} {nought}": Nought,
            f"plus {MOST} {nought}": Nought,
            f"times {MOST} {great}": Great,
            f"times {nought} {MOST}": Nought,
            f"over times {MOST} {MOST} minus 1 1": Great,
            f"plus over 1 minus 1 1 times {MOST} {MOST}": Nought,
            f"minus plus 1 {nought} plus 1 {great}": Nought,
            f"minus plus 1 {great} plus 1 {nought}": Great,
            f"same plus 1 2 plus {nought} {great}": Nought,
            f"under plus 1 2 plus {great} {nought}": Great,
            f"times times {MOST} 2 {nought}": Great,
            f"plus {MOST} plus 1 {nought}": Nought,
            f"times 0 {nought}": Nought,
            f"times 0 {great}": Great,
            f"over 0 times 0 {great}": Great,
            f"over plus {MOST} 0 plus 0 0": Nought,
        }
        for text, kind in cases.items():
            with self.subTest(text=text):
                self.assertEqual(self.refusal(text), kind)

    def test_at_the_word_itself_when_both_parts_are_fine(self):
        self.assertEqual(self.refusal(f"plus plus 1 2 {MOST}"), Great)
        self.assertEqual(self.refusal("over plus 1 2 minus 3 3"), Nought)
        self.assertEqual(self.refusal("plus over 4 2 rest 4 3"), None)


if __name__ == "__main__":
    unittest.main()
