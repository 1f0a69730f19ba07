"""linpapers/papers.py: papers, their sums, what they refute and what they show."""

import itertools
import unittest
from copy import deepcopy
from fractions import Fraction

from helpers import is_refuted, is_so, pair, paper_of, point_of, rows_of, some_systems, total_of, true_at
from linpapers.papers import is_paper, refutes, shows, sum_of
from linpapers.rowtext import read_row

BIG = 10 ** 25 + 13
HALF = Fraction(1, 2)
ZERO = (0, 1)

# One row for each sign: the rows 0 and 3 say <=, 1 says <, 2 and 4 say =.
SIGNS = rows_of("x + y <= 3; x < 1; x - y = 2; -y <= -1/2; y = 5")


def parts(**numbers):
    return point_of(**numbers)


class SumOf(unittest.TestCase):
    def check(self, pairs, some_parts, sign, bound):
        self.assertEqual(sum_of(SIGNS, paper_of(*pairs)), (some_parts, sign, pair(bound)), pairs)

    def test_the_empty_paper(self):
        self.assertEqual(sum_of([], ()), ((), "=", ZERO))
        self.assertEqual(sum_of(SIGNS, ()), ((), "=", ZERO))

    def test_one_row(self):
        for index, some_row in enumerate(SIGNS):
            self.assertEqual(sum_of(SIGNS, ((index, (1, 1)),)), some_row)

    def test_multiples(self):
        self.check([(0, 2)], parts(x=2, y=2), "<=", 6)
        self.check([(1, Fraction(2, 3))], parts(x=Fraction(2, 3)), "<", Fraction(2, 3))
        self.check([(0, HALF), (3, Fraction(1, 3))], parts(x=HALF, y=Fraction(1, 6)), "<=", Fraction(4, 3))

    def test_signs(self):
        self.check([(2, 1), (4, 1)], parts(x=1), "=", 7)
        self.check([(0, 1), (2, 1)], parts(x=2), "<=", 5)
        self.check([(2, 1), (3, 2)], parts(x=1, y=-3), "<=", 1)
        self.check([(0, 1), (3, 1)], parts(x=1), "<=", Fraction(5, 2))
        self.check([(0, 1), (1, 1)], parts(x=2, y=1), "<", 4)
        self.check([(1, 1), (2, 1)], parts(x=2, y=-1), "<", 3)
        self.check([(1, 1), (3, 1)], parts(x=1, y=-1), "<", HALF)
        self.check([(0, 1), (1, 1), (2, 1), (3, 1), (4, 1)], parts(x=3), "<", Fraction(21, 2))

    def test_numbers_that_come_to_zero(self):
        self.check([(0, 1), (2, -1)], parts(y=2), "<=", 1)
        self.check([(3, 1), (4, 1)], (), "<=", Fraction(9, 2))
        self.check([(0, 1), (3, 1)], parts(x=1), "<=", Fraction(5, 2))

    def test_multipliers_below_zero(self):
        self.check([(2, -1)], parts(x=-1, y=1), "=", -2)
        self.check([(2, Fraction(-3, 2)), (4, -1)], parts(x=Fraction(-3, 2), y=HALF), "=", -8)
        self.check([(1, 1), (2, -1)], parts(y=1), "<", -1)

    def test_it_need_not_be_normal(self):
        self.check([(0, 4), (3, 2)], parts(x=4, y=2), "<=", 11)
        self.check([(2, 6)], parts(x=6, y=-6), "=", 12)
        self.assertEqual(sum_of(rows_of("x <= 1; -x <= 3"), paper_of((0, 2), (1, 2))), ((), "<=", (8, 1)))
        self.assertEqual(sum_of(rows_of("x = 1"), paper_of((0, -2))), (parts(x=-2), "=", (-2, 1)))

    def test_large(self):
        self.assertEqual(sum_of([(parts(x=BIG), "<", (1, BIG))], paper_of((0, Fraction(1, BIG)))),
                         (parts(x=1), "<", (1, BIG * BIG)))

    def test_against_fractions(self):
        for system in some_systems(21, 200):
            multipliers = [Fraction(k + 1, 3) * (-1 if some_row[1] == "=" and k == 0 else 1)
                           for k, some_row in enumerate(system)]
            paper = paper_of(*enumerate(multipliers))
            numbers, sign, bound = total_of(system, paper)
            self.assertEqual(sum_of(system, paper), (parts(**numbers), sign, pair(bound)))

    def test_it_holds_at_each_point_of_the_rows(self):
        total = sum_of(SIGNS[:4], paper_of((0, 2), (1, 1), (2, -3), (3, HALF)))
        for x, y in itertools.product(range(-12, 13), repeat=2):
            point = point_of(x=Fraction(x, 4), y=Fraction(y, 4))
            if all(true_at(some_row, point) for some_row in SIGNS[:4]):
                self.assertTrue(true_at(total, point))

    def test_nothing_is_modified(self):
        system, paper = deepcopy(SIGNS), paper_of((0, 2), (2, -1))
        for function in (sum_of, is_paper, refutes):
            function(system, paper)
        shows(system, paper, SIGNS[0])
        self.assertEqual(system, SIGNS)


class IsPaper(unittest.TestCase):
    def check(self, pairs, result, system=SIGNS):
        self.assertIs(is_paper(system, paper_of(*pairs)), result, pairs)

    def test_the_empty_paper(self):
        self.check([], True)
        self.check([], True, [])

    def test_papers(self):
        self.check([(0, 1)], True)
        self.check([(4, 1)], True)
        self.check([(0, 1), (1, HALF), (2, 3), (3, 1), (4, 1)], True)
        self.check([(1, 1), (4, 7)], True)

    def test_indices_that_do_not_ascend(self):
        self.check([(1, 1), (0, 1)], False)
        self.check([(0, 1), (2, 1), (1, 1)], False)
        self.check([(0, 1), (0, 1)], False)
        self.check([(0, 1), (2, 1), (2, -1)], False)

    def test_indices_of_no_row(self):
        self.check([(5, 1)], False)
        self.check([(0, 1), (5, 1)], False)
        self.check([(0, 1), (99, 1)], False)
        self.check([(0, 1)], False, [])
        for index in (-1, -2, -5, -6):
            self.check([(index, 1)], False)
            self.check([(index, 1), (0, 1)], False)
            self.check([(0, 1), (index, 1)], False)

    def test_multipliers(self):
        for index, some_row in enumerate(SIGNS):
            self.check([(index, 0)], False)
            for multiplier in (1, HALF, BIG):
                self.check([(index, multiplier)], True)
                self.check([(index, -multiplier)], some_row[1] == "=")

    def test_one_wrong_pair_among_others(self):
        self.check([(0, 1), (2, 0), (3, 1)], False)
        self.check([(0, 1), (1, -1), (2, -1)], False)
        self.check([(0, 1), (2, -1), (3, -HALF)], False)
        self.check([(0, 1), (2, -1), (4, -HALF)], True)


class Refutes(unittest.TestCase):
    def check(self, text, pairs, result):
        self.assertIs(refutes(rows_of(text), paper_of(*pairs)), result, (text, pairs))

    def test_sums_that_hold_nowhere(self):
        self.check("x + y >= 3; x < 1; y <= 2", [(0, 1), (1, 1), (2, 1)], True)
        self.check("x < 0; x > 0", [(0, 1), (1, 1)], True)
        self.check("x <= 0; x > 0", [(0, 3), (1, 3)], True)
        self.check("x <= 0; x >= 1", [(0, HALF), (1, HALF)], True)
        self.check("x = 0; x = 1", [(0, 1), (1, -1)], True)
        self.check("x = 0; x = 1", [(0, -1), (1, 1)], True)
        self.check("x = 0; x > 1", [(0, 1), (1, 1)], True)
        self.check("x = 2; 2 x + y <= 1; y >= 0", [(0, -2), (1, 1), (2, 1)], True)

    def test_rows_without_parts(self):
        self.check("0 <= -1", [(0, 1)], True)
        self.check("0 < 0", [(0, 5)], True)
        self.check("0 < -1; 0 <= 1", [(0, 2), (1, 1)], True)
        self.check("0 < -1; 0 <= 1", [(0, 1), (1, 1)], True)
        self.check("0 < -1; 0 <= 1", [(0, 1), (1, 2)], False)
        self.check("0 = 1", [(0, 1)], True)
        self.check("0 = 1", [(0, -1)], True)
        self.check("0 = 0", [(0, 1)], False)
        self.check("0 <= 0", [(0, 1)], False)
        self.check("0 < 1", [(0, 1)], False)

    def test_sums_that_hold_somewhere(self):
        self.check("x <= 0; x >= 0", [(0, 1), (1, 1)], False)
        self.check("x <= 1; x > 0", [(0, 1), (1, 1)], False)
        self.check("x = 1; x <= 1", [(0, -1), (1, 1)], False)
        self.check("x < 1; x > 0", [(0, 1), (1, 1)], False)
        self.check("x < 0; x > 0", [], False)

    def test_sums_with_parts(self):
        self.check("x < 0; x > 0", [(0, 1), (1, 2)], False)
        self.check("x < 0; x > 0", [(0, 1)], False)
        self.check("x + y < -5; x > 0", [(0, 1), (1, 1)], False)

    def test_no_papers(self):
        self.check("x < 0; x > 0", [(1, 1), (0, 1)], False)
        self.check("x > 0; x > 1", [(0, -1), (1, 1)], False)
        self.check("0 <= -1", [(-1, 1)], False)
        self.check("0 <= -1", [(1, 1)], False)
        self.check("0 <= -1; x <= 1", [(0, 1), (1, 0)], False)
        self.check("0 <= -1", [(0, 1), (0, 1)], False)
        self.check("0 <= 1", [(0, -1)], False)
        self.check("0 < 1", [(0, -1)], False)

    def test_rows_that_are_not_normal(self):
        system = [(parts(x=2), "<=", (1, 1)), (parts(x=-3), "<", (-2, 1)), (parts(x=-HALF), "=", (1, 1))]
        self.assertIs(refutes(system, paper_of((0, 3), (1, 2))), True)
        self.assertIs(refutes(system, paper_of((0, 1), (1, 1))), False)
        self.assertIs(refutes(system, paper_of((1, 1), (2, -6))), True)
        self.assertIs(refutes(system, paper_of((0, 1), (2, 4))), False)

    def test_against_fractions(self):
        found = 0
        for system in some_systems(22, 300, "x", 3):
            for multipliers in itertools.product((1, 2, 3), repeat=len(system)):
                paper = paper_of(*enumerate(multipliers))
                found += is_refuted(system, paper)
                self.assertIs(refutes(system, paper), is_refuted(system, paper))
        self.assertGreater(found, 50)


class Shows(unittest.TestCase):
    def check(self, text, pairs, row_text, result):
        self.assertIs(shows(rows_of(text), paper_of(*pairs), read_row(row_text)), result, (text, pairs, row_text))

    def test_each_rule(self):
        # For each sign of the sum and of the row: whether it shows the row if the bound of
        # the sum is less than, equal to, or greater than that of the row.
        rules = {
            ("=", "="): (False, True, False), ("<", "="): (False, False, False), ("<=", "="): (False, False, False),
            ("=", "<"): (True, False, False), ("<", "<"): (True, True, False), ("<=", "<"): (True, False, False),
            ("=", "<="): (True, True, False), ("<", "<="): (True, True, False), ("<=", "<="): (True, True, False)}
        for (sum_sign, sign), results in rules.items():
            for some_parts in (parts(x=2, y=-1), parts(x=4, y=-2), ()):
                for bound, result in zip((HALF, Fraction(1, 3), Fraction(1, 4)), results):
                    system = [(some_parts, sum_sign, (1, 3))]
                    some_row = (some_parts, sign, pair(bound))
                    self.assertIs(shows(system, ((0, (1, 1)),), some_row), result, (system, some_row))

    def test_each_rule_at_zero_without_parts(self):
        for sum_sign, sign in itertools.product(("<=", "<", "="), repeat=2):
            for bound in (-1, 0, 1):
                for sum_bound in (-1, 0, 1):
                    result = sum_bound < bound if sign == "<" else sum_bound <= bound
                    if sign == "=":
                        result = sum_bound == bound and sum_sign == "="
                    if sign == "<" and sum_bound == bound:
                        result = sum_sign == "<"
                    system = [((), sum_sign, pair(sum_bound))]
                    self.assertIs(shows(system, paper_of((0, 1)), ((), sign, pair(bound))), result)

    def test_sums_of_several_rows(self):
        self.check("x + y <= 3; y >= 1", [(0, 1), (1, 1)], "x <= 2", True)
        self.check("x + y <= 3; y >= 1", [(0, 1), (1, 1)], "x < 2", False)
        self.check("x + y <= 3; y >= 1", [(0, 1), (1, 1)], "x < 3", True)
        self.check("x + y <= 3; y > 1", [(0, 1), (1, 1)], "x < 2", True)
        self.check("x + y = 3; y = 1", [(0, 1), (1, -1)], "x = 2", True)
        self.check("x + y = 3; y = 1", [(0, -1), (1, 1)], "x >= 2", True)
        self.check("x + y = 3; y = 1", [(0, -1), (1, 1)], "x = 2", False)

    def test_other_parts(self):
        self.check("x <= 1", [(0, 1)], "y <= 1", False)
        self.check("x <= 1", [(0, 2)], "x <= 1", False)
        self.check("x <= 1", [(0, 1)], "-x <= 1", False)
        self.check("x <= 1", [(0, 1)], "x + y <= 1", False)
        self.check("x <= 1", [(0, 1)], "0 <= 2", False)
        self.check("x <= 1", [], "x <= 2", False)

    def test_the_empty_paper(self):
        for text, result in (("0 = 0", True), ("0 <= 0", True), ("0 < 1", True), ("0 <= 1", True), ("0 < 0", False),
                             ("0 <= -1", False), ("0 = 1", False), ("0 < -1", False)):
            self.check("x <= 1", [], text, result)
            self.check("", [], text, result)

    def test_what_refutes(self):
        self.check("x < 0; x > 0", [(0, 1), (1, 1)], "0 < 0", True)
        self.check("x < 0; x > 0", [(0, 1), (1, 1)], "0 <= 0", True)
        self.check("x < 0; x > 0", [(0, 1), (1, 1)], "0 <= -1", False)
        self.check("0 <= -1", [(0, 1)], "0 <= 1", True)
        self.check("0 <= -1", [(0, 1)], "0 = 1", False)

    def test_no_papers(self):
        self.check("x <= 1; x <= 0", [(1, 1), (0, 1)], "2 x <= 1", False)
        self.check("x <= 1; x <= 2", [(-1, 1)], "x <= 2", False)
        self.check("x <= 1", [(1, 1)], "x <= 1", False)
        self.check("x <= 1", [(0, -1)], "-x <= -1", False)
        self.check("x < 1", [(0, -1)], "-x < -1", False)
        self.check("x = 1", [(0, -1)], "-x <= -1", True)
        self.check("x <= 1; y <= 1", [(0, 1), (1, 0)], "x <= 1", False)
        self.check("y <= 1", [(0, 0)], "0 <= 1", False)

    def test_rows_that_are_not_normal(self):
        system = rows_of("x - 2 y <= 1; x = 1")
        self.assertIs(shows(system, paper_of((0, 2)), (parts(x=2, y=-4), "<=", (2, 1))), True)
        self.assertIs(shows(system, paper_of((0, 2)), (parts(x=2, y=-4), "<=", (1, 1))), False)
        self.assertIs(shows(system, paper_of((0, 1)), (parts(x=2, y=-4), "<=", (2, 1))), False)
        self.assertIs(shows(system, paper_of((0, HALF)), (parts(x=HALF, y=-1), "<", (1, 1))), True)
        self.assertIs(shows(system, paper_of((1, -1)), (parts(x=-1), "=", (-1, 1))), True)
        self.assertIs(shows(system, paper_of((1, 1)), (parts(x=-1), "=", (-1, 1))), False)
        self.assertIs(shows(system, paper_of((1, 3)), (parts(x=3), "=", (3, 1))), True)
        self.assertIs(shows(system, (), ((), "<", (7, 2))), True)
        self.assertIs(shows([((), "=", (5, 1))], paper_of((0, -2)), ((), "=", (-10, 1))), True)

    def test_a_row_that_is_shown_holds_where_the_sum_does(self):
        found = 0
        bounds = (Fraction(-3, 2), -1, 0, HALF, 1)
        for sum_sign, sum_bound, sign, bound in itertools.product(
                ("<=", "<", "="), bounds, ("<=", "<", "="), bounds):
            system = [(parts(x=1), sum_sign, pair(sum_bound))]
            some_row = (parts(x=1), sign, pair(bound))
            if shows(system, paper_of((0, 1)), some_row):
                found += 1
                for x in range(-16, 17):
                    if is_so(Fraction(x, 8), sum_sign, sum_bound):
                        self.assertTrue(is_so(Fraction(x, 8), sign, bound))
        self.assertEqual(found, 3 * 15 + (15 + 10 + 10) + 5)


if __name__ == "__main__":
    unittest.main()
