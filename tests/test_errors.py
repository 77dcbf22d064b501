"""The refusals."""

import unittest

from forerun.errors import (
    Folded,
    ForerunError,
    Great,
    NoDealing,
    NoHand,
    NoLine,
    NoLog,
    NoNumber,
    NoOrder,
    NoTerm,
    Nought,
)

REFUSALS = [NoNumber, NoTerm, NoDealing, Nought, Great, Folded, NoHand, NoOrder, NoLine, NoLog]


def made(kind):
    return kind(3) if kind is NoDealing else kind()


class Refusals(unittest.TestCase):
    def test_there_are_ten_of_them(self):
        self.assertEqual(len(set(REFUSALS)), 10)

    def test_each_is_caught_as_a_forerun_error(self):
        for kind in REFUSALS:
            with self.subTest(kind=kind), self.assertRaises(ForerunError):
                raise made(kind)

    def test_each_is_caught_as_a_value_error(self):
        for kind in REFUSALS + [ForerunError]:
            with self.subTest(kind=kind), self.assertRaises(ValueError):
                raise made(kind)

    def test_each_stands_right_under_forerun_error(self):
        for kind in REFUSALS:
            self.assertEqual(kind.__bases__, (ForerunError,))
        self.assertEqual(ForerunError.__bases__, (ValueError,))

    def test_none_is_of_another_class(self):
        for kind in REFUSALS:
            for other in REFUSALS:
                with self.subTest(kind=kind, other=other):
                    self.assertEqual(isinstance(made(kind), other), kind is other)

    def test_the_plain_one_is_none_of_the_ten(self):
        self.assertNotIsInstance(ForerunError(), tuple(REFUSALS))

    def test_each_but_no_dealing_takes_words(self):
        for kind in REFUSALS:
            if kind is not NoDealing:
                self.assertEqual(str(kind("why")), "why")


class TheRowOfANoDealing(unittest.TestCase):
    def test_it_is_the_number_that_it_was_made_of(self):
        for row in (0, 1, 39, 40, 300):
            self.assertEqual(NoDealing(row).row, row)
            self.assertEqual(NoDealing(row=row).row, row)

    def test_it_is_there_when_caught(self):
        try:
            raise NoDealing(7)
        except ForerunError as refusal:
            self.assertEqual(refusal.row, 7)

    def test_each_has_its_own(self):
        one, other = NoDealing(1), NoDealing(2)
        self.assertEqual((one.row, other.row), (1, 2))

    def test_it_is_made_of_a_row_alone(self):
        with self.assertRaises(TypeError):
            NoDealing()


if __name__ == "__main__":
    unittest.main()
