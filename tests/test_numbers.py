"""linpapers/numbers.py: numbers, their arithmetic and their comparison."""

import unittest
from fractions import Fraction

from linpapers.errors import NumberError
from linpapers.numbers import compare, minus, number, over, plus, times

# More than twenty digits each; BIG and BIG + 1 have no common divisor.
BIG = 10 ** 25 + 13
HUGE = 10 ** 40 + 1

# All fractions with these tops and bottoms, and some large ones.
SAMPLE = sorted({Fraction(top, bottom) for top in range(-7, 8) for bottom in range(1, 7)}) + [
    Fraction(BIG, HUGE), Fraction(-BIG, HUGE), Fraction(1, BIG), Fraction(-1, BIG * HUGE),
    Fraction(HUGE), Fraction(-HUGE, 3)]


def pair(fraction):
    return (fraction.numerator, fraction.denominator)


class Checks(unittest.TestCase):
    def check(self, found, fraction, note=None):
        """Hold a number against a fraction, also in its kind."""
        self.assertEqual(found, pair(fraction), note)
        self.assertIs(type(found), tuple, note)
        self.assertEqual([type(part) for part in found], [int, int], note)

    def check_all_pairs(self, function, operation):
        for first in SAMPLE:
            for second in SAMPLE:
                self.check(function(pair(first), pair(second)), operation(first, second), (first, second))


class Number(Checks):
    def test_lowest_terms(self):
        self.assertEqual(number(6, 4), (3, 2))
        self.assertEqual(number(3, 2), (3, 2))
        self.assertEqual(number(8, 4), (2, 1))
        self.assertEqual(number(5, 5), (1, 1))

    def test_tops_and_bottoms_below_zero(self):
        self.assertEqual(number(-6, 4), (-3, 2))
        self.assertEqual(number(6, -4), (-3, 2))
        self.assertEqual(number(-6, -4), (3, 2))
        self.assertEqual(number(1, -1), (-1, 1))

    def test_all_small_ones(self):
        for top in range(-30, 31):
            for bottom in list(range(-30, 0)) + list(range(1, 31)):
                self.check(number(top, bottom), Fraction(top, bottom))

    def test_top_zero(self):
        for bottom in (1, 7, -1, -7, BIG, -BIG):
            self.assertEqual(number(0, bottom), (0, 1))

    def test_bottom_zero(self):
        for top in (1, -1, 0, BIG, -BIG):
            with self.assertRaises(NumberError):
                number(top, 0)

    def test_large(self):
        self.assertEqual(number(BIG * 6, BIG * 4), (3, 2))
        self.assertEqual(number(BIG * HUGE, -BIG * (HUGE + 1)), (-HUGE, HUGE + 1))
        self.assertEqual(number(HUGE, HUGE + 1), (HUGE, HUGE + 1))
        self.assertEqual(number(-HUGE * 3, 3), (-HUGE, 1))


class Arithmetic(Checks):
    def test_plus(self):
        self.assertEqual(plus((1, 2), (1, 3)), (5, 6))
        self.assertEqual(plus((1, 6), (1, 3)), (1, 2))
        self.assertEqual(plus((1, 2), (1, 2)), (1, 1))
        self.assertEqual(plus((-1, 2), (1, 2)), (0, 1))
        self.check_all_pairs(plus, lambda first, second: first + second)

    def test_minus(self):
        self.assertEqual(minus((1, 2), (1, 3)), (1, 6))
        self.assertEqual(minus((1, 3), (1, 2)), (-1, 6))
        self.assertEqual(minus((3, 2), (1, 2)), (1, 1))
        self.assertEqual(minus((-3, 7), (-3, 7)), (0, 1))
        self.check_all_pairs(minus, lambda first, second: first - second)

    def test_times(self):
        self.assertEqual(times((2, 3), (3, 4)), (1, 2))
        self.assertEqual(times((-2, 3), (-3, 2)), (1, 1))
        self.assertEqual(times((-2, 3), (3, 4)), (-1, 2))
        self.assertEqual(times((0, 1), (-3, 4)), (0, 1))
        self.check_all_pairs(times, lambda first, second: first * second)

    def test_over(self):
        self.assertEqual(over((2, 3), (4, 3)), (1, 2))
        self.assertEqual(over((2, 3), (-4, 3)), (-1, 2))
        self.assertEqual(over((-2, 3), (-2, 3)), (1, 1))
        self.assertEqual(over((0, 1), (-4, 3)), (0, 1))
        for first in SAMPLE:
            for second in SAMPLE:
                if second != 0:
                    self.check(over(pair(first), pair(second)), first / second, (first, second))

    def test_over_zero(self):
        for first in SAMPLE:
            with self.assertRaises(NumberError):
                over(pair(first), (0, 1))
        with self.assertRaises(NumberError):
            over((0, 1), (0, 1))

    def test_bottoms_of_more_than_twenty_digits(self):
        self.assertEqual(plus((1, BIG), (1, BIG + 1)), (2 * BIG + 1, BIG * (BIG + 1)))
        self.assertEqual(plus((1, 2 * BIG), (1, 2 * BIG)), (1, BIG))
        self.assertEqual(plus((BIG - 1, BIG), (1, BIG)), (1, 1))
        self.assertEqual(minus((1, BIG), (1, BIG + 1)), (1, BIG * (BIG + 1)))
        self.assertEqual(minus((1, BIG), (1, BIG)), (0, 1))
        self.assertEqual(times((BIG, BIG + 1), (-(BIG + 1), BIG)), (-1, 1))
        self.assertEqual(times((1, BIG), (1, HUGE)), (1, BIG * HUGE))
        self.assertEqual(over((1, BIG), (-1, HUGE)), pair(Fraction(-HUGE, BIG)))
        self.assertEqual(over((1, BIG), (1, BIG)), (1, 1))


class Compare(unittest.TestCase):
    def check(self, first, second, order):
        self.assertEqual(compare(first, second), order, (first, second))
        self.assertEqual(compare(second, first), -order, (first, second))

    def test_ordinary(self):
        self.check((1, 3), (1, 2), -1)
        self.check((2, 3), (3, 4), -1)
        self.check((2, 3), (2, 3), 0)

    def test_below_zero(self):
        self.check((-1, 2), (-1, 3), -1)
        self.check((-1, 3), (1, 2), -1)
        self.check((-1, 3), (0, 1), -1)
        self.check((0, 1), (1, 3), -1)
        self.check((-5, 3), (-5, 3), 0)
        self.check((0, 1), (0, 1), 0)

    def test_all_pairs(self):
        for first in SAMPLE:
            for second in SAMPLE:
                order = compare(pair(first), pair(second))
                self.assertEqual(order, (first > second) - (first < second), (first, second))
                self.assertIs(type(order), int)

    def test_differing_by_a_small_part(self):
        for base in ((1, 3), (-1, 3), (0, 1), (7, 1), (-HUGE, BIG)):
            self.check(base, plus(base, (1, HUGE)), -1)
            self.check(minus(base, (1, HUGE)), base, -1)
            self.check(minus(base, (1, HUGE + 1)), minus(base, (1, HUGE + 2)), -1)


if __name__ == "__main__":
    unittest.main()
