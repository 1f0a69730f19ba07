"""linpapers/numbers.py: the simplest number between two bounds."""

import signal
import unittest
from fractions import Fraction

from linpapers.numbers import simplest_between

SIGNS = [(lower_in, upper_in) for lower_in in (False, True) for upper_in in (False, True)]

# Between two different bounds with bottoms up to 12 there is a number with a
# bottom up to 24: top + top over bottom + bottom.
BOTTOMS = range(1, 25)
FAR = 4
# A multiple of all those bottoms, so that the search can compare integers.
SCALE = 5354228880


def in_search_order():
    """Return the numbers from -FAR to FAR, those with the bottom 1 first, then 2 ..; nearest to 0 first."""
    found = {}
    for bottom in BOTTOMS:
        for top in sorted(range(-FAR * bottom, FAR * bottom + 1), key=abs):
            value = Fraction(top, bottom)
            found.setdefault(value, (value.numerator, value.denominator))
    return [(int(value * SCALE), pair) for value, pair in found.items()]


CANDIDATES = in_search_order()


def searched(lower, lower_in, upper, upper_in):
    """Return the first candidate between the bounds, or None."""
    low = -SCALE * FAR - 1 if lower is None else int(lower * SCALE) + (not lower_in)
    high = SCALE * FAR + 1 if upper is None else int(upper * SCALE) - (not upper_in)
    return next((pair for value, pair in CANDIDATES if low <= value <= high), None)


def bound(fraction):
    return None if fraction is None else (fraction.numerator, fraction.denominator)


class SimplestBetween(unittest.TestCase):
    def check(self, lower, lower_in, upper, upper_in, simplest):
        """Check the bounds, and what they come to with the signs changed."""
        self.assertEqual(simplest_between(lower, lower_in, upper, upper_in), simplest)
        self.assertEqual(
            simplest_between(opposite(upper), upper_in, opposite(lower), lower_in), opposite(simplest))

    def check_with_all_signs(self, lower, upper, simplest):
        for lower_in, upper_in in SIGNS:
            self.check(lower, lower_in, upper, upper_in, simplest)

    def test_examples(self):
        self.assertEqual(simplest_between((1, 3), False, (1, 2), False), (2, 5))
        self.assertEqual(simplest_between((-7, 2), True, (-5, 2), True), (-3, 1))
        self.assertEqual(simplest_between(None, True, (0, 1), False), (-1, 1))

    def test_kinds(self):
        for found in (simplest_between((1, 3), False, (1, 2), False),
                      simplest_between((-1, 2), False, (-1, 3), False),
                      simplest_between((5, 1), True, (5, 1), True)):
            self.assertIs(type(found), tuple)
            self.assertEqual([type(part) for part in found], [int, int])

    def test_no_bounds(self):
        self.check_with_all_signs(None, None, (0, 1))

    def test_lower_bound_only(self):
        for upper_in in (False, True):
            self.check((-1, 2), True, None, upper_in, (0, 1))
            self.check((0, 1), True, None, upper_in, (0, 1))
            self.check((0, 1), False, None, upper_in, (1, 1))
            self.check((5, 2), True, None, upper_in, (3, 1))
            self.check((5, 2), False, None, upper_in, (3, 1))
            self.check((3, 1), True, None, upper_in, (3, 1))
            self.check((3, 1), False, None, upper_in, (4, 1))

    def test_upper_bound_only(self):
        for lower_in in (False, True):
            self.check(None, lower_in, (1, 2), True, (0, 1))
            self.check(None, lower_in, (0, 1), True, (0, 1))
            self.check(None, lower_in, (0, 1), False, (-1, 1))
            self.check(None, lower_in, (-5, 2), True, (-3, 1))
            self.check(None, lower_in, (-3, 1), True, (-3, 1))
            self.check(None, lower_in, (-3, 1), False, (-4, 1))

    def test_equal_bounds(self):
        for value in ((0, 1), (2, 1), (-2, 1), (5, 7), (-5, 7), (1, 10 ** 30)):
            self.check(value, True, value, True, value)
            self.check(value, True, value, False, None)
            self.check(value, False, value, True, None)
            self.check(value, False, value, False, None)

    def test_bounds_in_the_wrong_order(self):
        self.check_with_all_signs((1, 2), (1, 3), None)
        self.check_with_all_signs((1, 1), (-1, 1), None)
        self.check_with_all_signs((5, 1), (2, 1), None)
        self.check_with_all_signs((-1, 3), (-1, 2), None)
        self.check_with_all_signs((1, 1), (0, 1), None)

    def test_a_bound_that_is_the_simplest_itself(self):
        self.check((1, 3), True, (2, 5), False, (1, 3))
        self.check((1, 3), False, (2, 5), False, (3, 8))
        self.check((1, 3), False, (2, 5), True, (2, 5))
        self.check((1, 3), True, (2, 5), True, (1, 3))
        self.check((1, 4), True, (1, 3), True, (1, 3))
        self.check((1, 4), True, (1, 3), False, (1, 4))
        self.check((2, 1), True, (3, 1), True, (2, 1))
        self.check((2, 1), False, (3, 1), True, (3, 1))
        self.check((2, 1), False, (3, 1), False, (5, 2))
        self.check((2, 1), True, (3, 1), False, (2, 1))

    def test_zero_between_the_bounds(self):
        self.check_with_all_signs((-1, 3), (1, 2), (0, 1))
        self.check_with_all_signs((-100, 1), (1, 10 ** 30), (0, 1))

    def test_zero_as_a_bound(self):
        for upper_in in (False, True):
            self.check((0, 1), True, (2, 5), upper_in, (0, 1))
            self.check((0, 1), False, (2, 5), upper_in, (1, 3))
            self.check((0, 1), False, (5, 2), upper_in, (1, 1))
        self.check((0, 1), False, (1, 1), False, (1, 2))
        self.check((0, 1), False, (1, 3), True, (1, 3))
        self.check((0, 1), False, (1, 3), False, (1, 4))
        self.check((-1, 3), True, (0, 1), False, (-1, 3))
        self.check((-1, 3), False, (0, 1), False, (-1, 4))
        self.check((-1, 3), False, (0, 1), True, (0, 1))

    def test_the_least_bottom_goes_ahead_of_the_nearness_to_zero(self):
        self.check((-7, 2), True, (-5, 2), True, (-3, 1))
        self.check((5, 2), True, (7, 2), True, (3, 1))
        self.check((1, 3), True, (1, 1), True, (1, 1))
        self.check((12, 5), True, (10, 1), True, (3, 1))

    def test_against_a_plain_search(self):
        values = sorted({Fraction(top, bottom) for bottom in range(1, 13)
                         for top in range(-2 * bottom, 2 * bottom + 1)})
        for number, lower in enumerate(values):
            for upper in values[number + 1:]:
                for lower_in, upper_in in SIGNS:
                    self.check_search(lower, lower_in, upper, upper_in)

    def test_against_a_plain_search_with_few_bounds(self):
        values = sorted({Fraction(top, bottom) for bottom in range(1, 13)
                         for top in range(-3 * bottom, 3 * bottom + 1)})
        for value in values:
            for lower_in, upper_in in SIGNS:
                self.check_search(value, lower_in, None, upper_in)
                self.check_search(None, lower_in, value, upper_in)
                self.check_search(value, lower_in, value, upper_in)

    def check_search(self, lower, lower_in, upper, upper_in):
        found = simplest_between(bound(lower), lower_in, bound(upper), upper_in)
        if found != searched(lower, lower_in, upper, upper_in):
            self.fail((lower, lower_in, upper, upper_in, found))


class LargeBounds(unittest.TestCase):
    """Here a search by trying would never end, so each test has to end soon."""

    def setUp(self):
        signal.signal(signal.SIGALRM, too_long)
        signal.alarm(20)

    def tearDown(self):
        signal.alarm(0)

    def test_between_small_ones(self):
        lower, upper, middle = (1, 10 ** 30), (1, 5 * 10 ** 29), 5 * 10 ** 29 + 1
        self.assertEqual(simplest_between(lower, False, upper, False), (1, middle))
        self.assertEqual(simplest_between(lower, True, upper, False), (1, middle))
        self.assertEqual(simplest_between(lower, False, upper, True), upper)
        self.assertEqual(simplest_between(opposite(upper), False, opposite(lower), False), (-1, middle))

    def test_between_large_ones(self):
        whole = 10 ** 40
        lower, upper = (whole * 3 + 1, 3), (whole * 2 + 1, 2)
        self.assertEqual(simplest_between(lower, False, upper, False), (whole * 5 + 2, 5))
        self.assertEqual(simplest_between(lower, True, upper, True), upper)
        self.assertEqual(simplest_between((whole, 1), False, None, True), (whole + 1, 1))
        self.assertEqual(simplest_between(None, False, (-whole, 1), False), (-whole - 1, 1))

    def test_large_neighbours(self):
        whole = 10 ** 30
        lower, upper = (1, whole + 1), (1, whole)
        self.assertEqual(simplest_between(lower, False, upper, False), (2, 2 * whole + 1))

    def test_thousands_of_steps(self):
        # Each of the fractions first / second, second / third .. lies between all those
        # ahead of it, and the next one is the simplest strictly between two of them in a row.
        first, second = 1, 1
        for _ in range(5000):
            first, second = second, first + second
        third, fourth = first + second, first + 2 * second
        low, high = sorted([Fraction(first, second), Fraction(second, third)])
        self.assertEqual(simplest_between(bound(low), False, bound(high), False), (third, fourth))
        self.assertEqual(simplest_between(bound(-high), False, bound(-low), False), (-third, fourth))


def opposite(value):
    return None if value is None else (-value[0], value[1])


def too_long(number, frame):
    raise AssertionError("does not come to its end")


if __name__ == "__main__":
    unittest.main()
