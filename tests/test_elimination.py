"""linpapers/elimination.py: derived rows, eliminating an unknown, and cleaning."""

import unittest
from copy import deepcopy
from fractions import Fraction

from helpers import (
    added, pair, paper_of, plain_cleaned, plain_eliminated, plain_row, rows_of, some_systems, told_row, total_of)
from linpapers.elimination import cleaned, derived, eliminated
from linpapers.rows import normal
from linpapers.rowtext import read_row

HALF = Fraction(1, 2)
THIRD = Fraction(1, 3)
BIG = 10 ** 25 + 13


def one(text, *pairs):
    """Return a derived row."""
    return (read_row(text), paper_of(*pairs))


def indices(rows):
    """Return the index of each derived row whose paper has one pair."""
    return [paper[0][0] for _, paper in rows]


class Derived(unittest.TestCase):
    def test_each_row_with_its_index(self):
        self.assertEqual(derived(rows_of("x + y <= 3; x < 1; y = 2")),
                         [one("x + y <= 3", (0, 1)), one("x < 1", (1, 1)), one("y = 2", (2, 1))])
        self.assertEqual(derived([]), [])

    def test_not_cleaned(self):
        system = rows_of("0 <= 1; x <= 1; x <= 1; x <= 2; 0 < 0; y = 1; y = 1")
        self.assertEqual([some_row for some_row, _ in derived(system)], system)
        self.assertEqual([paper for _, paper in derived(system)], [paper_of((k, 1)) for k in range(7)])

    def test_a_new_list(self):
        system = rows_of("x <= 1; y <= 1")
        first = derived(system)
        self.assertIs(type(first), list)
        first.clear()
        self.assertEqual(len(derived(system)), 2)
        self.assertEqual(system, rows_of("x <= 1; y <= 1"))


class EliminatedByAnEquality(unittest.TestCase):
    def test_the_first_one_that_has_the_unknown(self):
        rows = derived(rows_of("x <= 4; y = 1; 2 x + y = 3; x - y < 1; x = 7"))
        self.assertEqual(eliminated(rows, "x"), [
            one("-y <= 5", (0, 2), (2, -1)), one("y = 1", (1, 1)),
            one("-y < -1/3", (2, -THIRD), (3, 2 * THIRD)), one("y = -11", (2, 1), (4, -2))])

    def test_all_others_in_order_and_those_without_it_unchanged(self):
        rows = [one("z < 1", (3, 5)), one("x + z <= 1", (0, 1)), one("0 <= 1", (1, 2)), one("x = 2", (2, 1)),
                one("y + z = 1", (5, -2))]
        self.assertEqual(eliminated(rows, "x"), [
            rows[0], one("z <= -1", (0, 1), (2, -1)), rows[2], rows[4]])

    def test_its_number_below_zero(self):
        rows = derived(rows_of("x - 2 y = 1; 3 y <= x; -y < 1"))
        self.assertEqual(eliminated(rows, "y"), [
            one("x <= 3", (0, 3), (1, 2)), one("-x < 1", (0, -1), (2, 2))])

    def test_rows_come_out_normal(self):
        rows = derived(rows_of("2 x + 4 y = 3; 3 x + 5 y = 2; x <= 9"))
        self.assertEqual(eliminated(rows, "x"), [
            one("y = 5/2", (0, 3), (1, -1)), one("-y <= 15/4", (0, -HALF), (2, HALF))])

    def test_no_parts_left(self):
        self.assertEqual(eliminated(derived(rows_of("x = 1; x <= 5; x = 3; 2 x < 2; x > 1")), "x"), [
            one("0 <= 4", (0, -Fraction(1, 4)), (1, Fraction(1, 4))), one("0 = 2", (0, -HALF), (2, HALF)),
            one("0 < 0", (0, -1), (3, 1)), one("0 < 0", (0, 1), (4, 1))])
        self.assertEqual(eliminated(derived(rows_of("x = 3; x = 1")), "x"), [one("0 = 1", (0, HALF), (1, -HALF))])
        self.assertEqual(eliminated(derived(rows_of("x = 3; x > 7; x <= 0")), "x"), [
            one("0 < -1", (0, Fraction(1, 4)), (1, Fraction(1, 4))), one("0 <= -1", (0, -THIRD), (2, THIRD))])

    def test_with_the_bound_zero_the_multiples_stay(self):
        self.assertEqual(eliminated(derived(rows_of("2 x + 3 y = 0; 4 x + 6 y <= 0")), "x"),
                         [one("0 <= 0", (0, -1), (1, 1))])
        rows = [one("x + 2 y = 0", (0, HALF)), one("5 x + 10 y = 0", (1, 1)), one("-3 x - 6 y <= 0", (2, 4))]
        self.assertEqual(eliminated(rows, "x"), [
            one("0 = 0", (0, -HALF), (1, 1)), one("0 <= 0", (0, HALF), (2, 4))])

    def test_multipliers_that_come_to_zero(self):
        rows = [one("x + y = 3", (0, 1), (1, 1)), one("x - y <= 1", (1, -1), (2, 1)), one("x = 3", (1, 1)),
                one("x - z <= 1", (1, 1), (3, 1))]
        self.assertEqual(eliminated(rows, "x"), [
            one("-y <= -1", (0, -HALF), (1, -1), (2, HALF)), one("y = 0", (0, 1)),
            one("-y - z <= -2", (0, -1), (3, 1))])


class EliminatedByPairs(unittest.TestCase):
    def test_the_order(self):
        rows = derived(rows_of("-x <= 1; x + y <= 2; z <= 3; x - y <= 4; -x + z <= 5; y = 1; x + z < 6"))
        self.assertEqual(eliminated(rows, "x"), [
            one("z <= 3", (2, 1)), one("y = 1", (5, 1)),
            one("y <= 3", (0, 1), (1, 1)), one("y + z <= 7", (1, 1), (4, 1)),
            one("-y <= 5", (0, 1), (3, 1)), one("-y + z <= 9", (3, 1), (4, 1)),
            one("z < 7", (0, 1), (6, 1)), one("z < 11/2", (4, HALF), (6, HALF))])

    def test_multiples(self):
        rows = derived(rows_of("2 x + y <= 3; -3 x + y <= 4"))
        # 1/2 times the first plus 1/3 times the second, and this times 6/5.
        self.assertEqual(eliminated(rows, "x"), [one("y <= 17/5", (0, Fraction(3, 5)), (1, Fraction(2, 5)))])
        self.assertEqual(eliminated(derived(rows_of("3 x + 2 y < 1; -6 x + 5 y <= 2")), "x"),
                         [one("y < 4/9", (0, Fraction(2, 9)), (1, Fraction(1, 9)))])

    def test_signs(self):
        for first, second, sign in (("<=", "<=", "<="), ("<=", "<", "<"), ("<", "<=", "<"), ("<", "<", "<")):
            rows = derived(rows_of(f"x + y {first} 1; y - x {second} 2"))
            self.assertEqual(eliminated(rows, "x"), [one(f"y {sign} 3/2", (0, HALF), (1, HALF))])

    def test_no_parts_left(self):
        self.assertEqual(eliminated(derived(rows_of("x <= 1; x < 3; x >= 2; x > 1; x >= 1")), "x"), [
            one("0 <= -1", (0, 1), (2, 1)), one("0 < 0", (0, 1), (3, 1)), one("0 <= 0", (0, 1), (4, 1)),
            one("0 < 1", (1, 1), (2, 1)), one("0 < 2", (1, HALF), (3, HALF)), one("0 < 2", (1, HALF), (4, HALF))])

    def test_papers_are_added(self):
        rows = [one("x + y <= 2", (0, 1), (2, 1)), one("y - x <= 1", (1, 3), (2, HALF)), one("z - x < 1", (4, 1))]
        self.assertEqual(eliminated(rows, "x"), [
            one("y <= 3/2", (0, HALF), (1, Fraction(3, 2)), (2, Fraction(3, 4))),
            one("y + z < 3", (0, 1), (2, 1), (4, 1))])

    def test_on_one_side_alone(self):
        self.assertEqual(eliminated(derived(rows_of("x + y <= 2; x <= 1; y < 7")), "x"), [one("y < 7", (2, 1))])
        self.assertEqual(eliminated(derived(rows_of("-x + y <= 2; y < 7; x > 1")), "x"), [one("y < 7", (1, 1))])

    def test_equalities_without_the_unknown_do_not_count(self):
        rows = derived(rows_of("y = 1; x + y <= 2; -x <= 0"))
        self.assertEqual(eliminated(rows, "x"), [one("y = 1", (0, 1)), one("y <= 2", (1, 1), (2, 1))])


class Eliminated(unittest.TestCase):
    def test_an_unknown_that_no_row_has(self):
        rows = derived(rows_of("x + y <= 2; x = 1; 0 <= 1; x <= 3"))
        self.assertEqual(eliminated(rows, "z"), rows)
        self.assertIsNot(eliminated(rows, "z"), rows)
        self.assertEqual(eliminated([], "x"), [])

    def test_not_cleaned(self):
        rows = derived(rows_of("y <= 1; y <= 2; 0 <= 1; 0 < 0; x <= 1; x >= 0; x >= 0"))
        self.assertEqual(eliminated(rows, "x"), rows[:4] + [
            one("0 <= 1", (4, 1), (5, 1)), one("0 <= 1", (4, 1), (6, 1))])
        self.assertEqual(eliminated(derived(rows_of("x = 1; x = 1; x <= 1; y = 1; y = 1")), "x"), [
            one("0 = 0", (0, -1), (1, 1)), one("0 <= 0", (0, -1), (2, 1)), one("y = 1", (3, 1)), one("y = 1", (4, 1))])

    def test_the_lists_stay_as_they_were(self):
        for text in ("x + y <= 2; -x <= 1; 0 <= 1; y <= 1; y <= 1", "x = y; x <= 1; y <= 2; y <= 2; 0 < 0", "y < 1"):
            rows = derived(rows_of(text))
            before = deepcopy(rows)
            for function in (lambda: eliminated(rows, "x"), lambda: cleaned(rows)):
                first = function()
                self.assertIs(type(first), list)
                self.assertIsNot(first, rows)
                self.assertEqual(rows, before)
                again = deepcopy(first)
                first.clear()
                self.assertEqual(rows, before)
                self.assertEqual(function(), again)

    def test_large(self):
        rows = derived([normal(((("x", (BIG, 1)), ("y", (1, 1))), "<=", (1, 1))),
                        normal(((("x", (-BIG - 1, 1)), ("y", (1, 1))), "<", (1, 1)))])
        self.assertEqual(eliminated(rows, "x"), [
            (((("y", (1, 1)),), "<", (1, 1)),
             paper_of((0, Fraction(BIG + 1, 2 * BIG + 1)), (1, Fraction(BIG, 2 * BIG + 1))))])

    def test_the_paper_of_each_row(self):
        count = 0
        for system in some_systems(31, 150, "xyz", 6):
            rows = derived(system)
            for name in "xyz":
                rows = eliminated(rows, name)
                if len(rows) > 60:
                    break
                for some_row, paper in rows:
                    numbers, sign, bound = total_of(system, paper)
                    parts = tuple((other, pair(numbers[other])) for other in sorted(numbers))
                    self.assertEqual((parts, sign, pair(bound)), some_row)
                    self.assertEqual(normal(some_row), some_row)
                    self.assertNotIn(name, numbers)
                    count += 1
        self.assertGreater(count, 500)

    def test_against_a_second_telling(self):
        for system in some_systems(32, 200, "xyz", 6):
            rows = derived(system)
            plain = [plain_row(*one_row) for one_row in rows]
            for name in "yzx":
                self.assertEqual(eliminated(rows, name), [told_row(found) for found in plain_eliminated(plain, name)])
            rows = cleaned(eliminated(cleaned(rows), "x"))
            plain = plain_cleaned(plain_eliminated(plain_cleaned(plain), "x"))
            self.assertEqual(rows, [told_row(found) for found in plain])
            self.assertEqual(eliminated(rows, "y"), [told_row(found) for found in plain_eliminated(plain, "y")])

    def test_the_second_telling(self):
        first = plain_row(read_row("x + y <= 1"), paper_of((0, 1)))
        second = plain_row(read_row("x = 2"), paper_of((1, 1)))
        self.assertEqual(told_row(added(first, 1, second, -1)), one("y <= -1", (0, 1), (1, -1)))


class Cleaned(unittest.TestCase):
    def check(self, text, left):
        """Check the indices of the rows that are left."""
        rows = derived(rows_of(text))
        self.assertEqual(cleaned(rows), [rows[k] for k in left], text)

    def test_no_rows(self):
        self.assertEqual(cleaned([]), [])

    def test_nothing_to_do(self):
        self.check("x <= 1; -x <= 1; y < 1; x + y = 1; x - y = 1", [0, 1, 2, 3, 4])

    def test_rows_without_parts_that_hold(self):
        self.check("0 <= 1; x <= 1; 0 <= 0; 0 < 1; 0 = 0; y <= 2", [1, 5])

    def test_rows_without_parts_that_do_not_hold(self):
        self.check("x <= 1; 0 <= -1", [0, 1])
        self.check("x <= 1; 0 < 0; y <= 1", [0, 1, 2])
        self.check("0 < -1; x <= 1", [0, 1])
        self.check("0 = 1; x <= 1", [0, 1])
        self.check("0 = 1; 0 <= -1", [0, 1])

    def test_the_strongest_without_parts(self):
        self.check("0 < 0; 0 <= -1", [1])
        self.check("0 <= -1; 0 < 0", [0])
        self.check("0 <= -1; 0 < -1", [1])
        self.check("0 < -1; 0 <= -1; 0 < -1", [0])
        self.check("0 <= -1; 0 <= 1; 0 < 1", [0])
        self.check("0 = 1; 0 < 0; 0 = 1; 0 <= -1", [0, 3])

    def test_the_least_bound(self):
        self.check("x <= 3; x <= 1; x <= 2", [1])
        self.check("x <= 1; x < 2", [0])
        self.check("x < 2; x <= 1", [1])
        self.check("x <= -1/2; x <= -1/3; x <= -2/3", [2])
        self.check("-x <= 3; -x <= -1; -x < 0", [1])

    def test_then_a_strict_one(self):
        self.check("x <= 1; x < 1", [1])
        self.check("x < 1; x <= 1", [0])
        self.check("x <= 1; x < 1; x < 2; x <= 1", [1])

    def test_then_the_first_one(self):
        self.check("x <= 1; x <= 1; x <= 1", [0])
        self.check("x < 1; x < 1", [0])
        self.check("x <= 2; x <= 1; x < 1; x < 1; x <= 1", [2])

    def test_in_its_place(self):
        self.check("x <= 3; y <= 1; x <= 1; z <= 1; x <= 2", [1, 2, 3])
        self.check("y <= 3; x <= 3; z <= 1; x <= 2; y <= 2; x <= 1", [2, 4, 5])

    def test_equalities(self):
        self.check("x = 1; x = 1; x = 2; x = 1; x = 2", [0, 2])
        self.check("x + y = 1; x = 1; x + y = 1", [0, 1])

    def test_equalities_beside_other_signs(self):
        self.check("x = 1; x <= 1", [0, 1])
        self.check("x <= 1; x = 1; x < 1", [1, 2])
        self.check("x <= 3; x = 1; x <= 2; x = 1", [1, 2])
        self.check("x = 0; x < 0; x <= -1", [0, 2])

    def test_other_parts(self):
        self.check("x <= 1; -x <= 1; 2 x + y <= 1; x + 2 y <= 1; x + y <= 1", [0, 1, 2, 3, 4])

    def test_whatever_the_papers_are(self):
        rows = [one("x <= 1", (4, 2), (5, 1)), one("x <= 1", (0, 1)), one("y = 1", (3, -1)), one("y = 1", (1, 1)),
                one("z <= 2", (0, 1)), one("z < 2", (0, 1), (7, 9))]
        self.assertEqual(cleaned(rows), [rows[0], rows[2], rows[5]])

    def test_against_a_second_telling(self):
        for system in some_systems(33, 600, "x", 7) + some_systems(34, 300, "xy", 8):
            rows = derived(system)
            self.assertEqual(indices(cleaned(rows)), indices(
                [told_row(found) for found in plain_cleaned([plain_row(*one_row) for one_row in rows])]))


if __name__ == "__main__":
    unittest.main()
