"""linpapers/ranges.py: the range of a term over a system, with its papers and rays."""

import unittest
from copy import deepcopy
from fractions import Fraction

from helpers import (
    all_true_at, pair, paper_of, plain_bound_row, plain_solve, point_of, rows_of, some_systems, total_of)
from linpapers.errors import LinpapersError, NoPoints
from linpapers.papers import is_paper, shows
from linpapers.ranges import lower_paper, lower_ray, range_of, upper_paper, upper_ray
from linpapers.rows import row, value
from linpapers.systems import has_points, solve

FUNCTIONS = (range_of, upper_paper, lower_paper, upper_ray, lower_ray)
HALF = Fraction(1, 2)
BIG = 10 ** 25 + 13


def term_of(constant=0, **numbers):
    return (point_of(**numbers), pair(constant))


def reached(fraction):
    return (pair(fraction), True)


def not_reached(fraction):
    return (pair(fraction), False)


class Ranges(unittest.TestCase):
    def check(self, text, some_term, lower, upper):
        self.assertEqual(range_of(rows_of(text), some_term), (lower, upper), text)

    def test_reached(self):
        self.check("x >= 1; x <= 3", term_of(x=1), reached(1), reached(3))
        self.check("2 x >= 1; x <= 7/3", term_of(x=1), reached(HALF), reached(Fraction(7, 3)))
        self.check("x >= -3; x <= -1", term_of(x=1), reached(-3), reached(-1))

    def test_not_reached(self):
        self.check("x > 1; x < 3", term_of(x=1), not_reached(1), not_reached(3))
        self.check("x >= 1; x < 3", term_of(x=1), reached(1), not_reached(3))
        self.check("x > 1; x <= 3", term_of(x=1), not_reached(1), reached(3))
        self.check("x + y < 3; x >= 1; y >= 0", term_of(y=1), reached(0), not_reached(2))
        self.check("x + y <= 3; x > 1; y >= 0", term_of(y=1), reached(0), not_reached(2))

    def test_no_bound(self):
        self.check("x >= 1", term_of(x=1), reached(1), None)
        self.check("x < 1", term_of(x=1), None, not_reached(1))
        self.check("", term_of(x=1), None, None)
        self.check("x + y <= 1", term_of(x=1), None, None)
        self.check("x + y <= 1; y >= 0", term_of(x=1), None, reached(1))
        self.check("x >= 1", term_of(x=-1), None, reached(-1))

    def test_one_value_alone(self):
        self.check("x = 3", term_of(x=1), reached(3), reached(3))
        self.check("x <= 3; x >= 3", term_of(x=1), reached(3), reached(3))
        self.check("x + y = 3; x - y = 1", term_of(x=2, y=-1), reached(3), reached(3))
        self.check("x - y = 1", term_of(x=-2, y=2), reached(-2), reached(-2))
        self.check("x <= y; y <= x", term_of(5, x=1, y=-1), reached(5), reached(5))

    def test_numbers_of_the_term(self):
        self.check("x >= 1; x <= 3", term_of(x=-1), reached(-3), reached(-1))
        self.check("x >= 1; x < 3", term_of(x=-1), not_reached(-3), reached(-1))
        self.check("x >= 1; x <= 3", term_of(x=Fraction(2, 3)), reached(Fraction(2, 3)), reached(2))
        self.check("x >= 1; x <= 3; y >= 0; y <= 2", term_of(x=2, y=-3), reached(-4), reached(6))
        self.check("x >= 1; x <= 3; y > 0; y <= 2", term_of(x=2, y=-3), reached(-4), not_reached(6))

    def test_a_constant(self):
        self.check("x >= 1; x < 3", term_of(5, x=1), reached(6), not_reached(8))
        self.check("x >= 1; x < 3", term_of(Fraction(-1, 2), x=1), reached(HALF), not_reached(Fraction(5, 2)))
        self.check("x = 1", term_of(-4, x=-1), reached(-5), reached(-5))

    def test_without_unknowns(self):
        for text in ("", "x >= 1; x <= 3", "x > 1", "x = 7", "0 <= 1"):
            for constant in (0, 4, Fraction(-2, 3)):
                self.check(text, term_of(constant), reached(constant), reached(constant))

    def test_unknowns_that_the_system_does_not_have(self):
        self.check("x >= 1; x <= 3", term_of(y=1), None, None)
        self.check("x >= 1; x <= 3", term_of(x=1, y=1), None, None)
        self.check("x = 1", term_of(2, a=1, x=-1, z=3), None, None)
        self.check("0 <= 1", term_of(z=-1), None, None)

    def test_an_unknown_called_t(self):
        self.check("t >= x; t <= 2; x >= 0", term_of(t=1), reached(0), reached(2))
        self.check("t >= x; t <= 2; x >= 0", term_of(x=1), reached(0), reached(2))
        self.check("t >= x; t <= 2; x >= 0", term_of(1, t=1, x=1), reached(1), reached(5))
        self.check("t = 1; t1 < 2; t0 >= t", term_of(t=1, t0=1, t1=-1), not_reached(0), None)
        self.check("t >= 0; t < 1; tt = t", term_of(t=1, tt=1), reached(0), not_reached(2))

    def test_equalities(self):
        self.check("x + y = 3; y <= 1", term_of(x=1), reached(2), None)
        self.check("x = 2 y; y < 3; y >= 0", term_of(1, x=1), reached(1), not_reached(7))
        self.check("x + y + z = 1; x >= 0; y >= 0; z > 0", term_of(x=1, y=1), reached(0), not_reached(1))

    def test_the_closest_bound(self):
        self.check("x <= 3; x <= 2; x < 5; x >= 0; x > -1", term_of(x=1), reached(0), reached(2))
        self.check("x <= 2; x < 2; x >= 0; x > 0", term_of(x=1), not_reached(0), not_reached(2))
        self.check("x + y <= 4; x - y <= 0; x <= 1", term_of(x=1), None, reached(1))
        self.check("x + y <= 4; x - y <= 0; x < 2", term_of(x=1), None, not_reached(2))

    def test_large(self):
        system = [row([("x", (BIG, 1)), ("y", (1, 1))], "<", (1, 1)), row([("y", (1, 1))], ">=", (0, 1))]
        self.assertEqual(range_of(system, term_of(x=1)), (None, not_reached(Fraction(1, BIG))))


class Papers(unittest.TestCase):
    def check(self, text, some_term, lower, upper):
        """Check both papers; each is given as a list of pairs, or as None."""
        for function, pairs in ((lower_paper, lower), (upper_paper, upper)):
            found = None if pairs is None else paper_of(*pairs)
            self.assertEqual(function(rows_of(text), some_term), found, (text, function))

    def test_one_row(self):
        self.check("x >= 1; x <= 3", term_of(x=1), [(0, 1)], [(1, 1)])
        self.check("x > 1; x < 3", term_of(x=1), [(0, 1)], [(1, 1)])
        self.check("x < 3; x > 1", term_of(x=2), [(1, 2)], [(0, 2)])
        self.check("x < 3; x > 1", term_of(x=-HALF), [(0, HALF)], [(1, HALF)])
        self.check("x <= 3; x <= 2; x >= 0", term_of(x=1), [(2, 1)], [(1, 1)])
        self.check("x <= 2; x < 2; x > 0; x >= 0", term_of(x=1), [(2, 1)], [(1, 1)])

    def test_no_bound(self):
        self.check("x >= 1", term_of(x=1), [(0, 1)], None)
        self.check("x < 1", term_of(x=1), None, [(0, 1)])
        self.check("x + y <= 1", term_of(x=1), None, None)
        self.check("x = 1", term_of(z=1), None, None)

    def test_an_equality_alone(self):
        self.check("x = 3", term_of(x=1), [(0, -1)], [(0, 1)])
        self.check("x = 3", term_of(x=-2), [(0, 2)], [(0, -2)])
        self.check("2 x - y = 3", term_of(1, x=1, y=-HALF), [(0, -HALF)], [(0, HALF)])
        self.check("x + y = 3; x - y = 1", term_of(x=1), [(0, -HALF), (1, -HALF)], [(0, HALF), (1, HALF)])
        self.check("x + y = 3; x - y = 1", term_of(y=1), [(0, -HALF), (1, HALF)], [(0, HALF), (1, -HALF)])

    def test_an_equality_among_others(self):
        self.check("x + y = 3; y <= 1", term_of(x=1), [(0, -1), (1, 1)], None)
        self.check("x = 2 y; y < 3; y >= 0", term_of(1, x=1), [(0, -1), (2, 2)], [(0, 1), (1, 2)])
        self.check("y < 3; 2 y = x", term_of(-1, x=1), None, [(0, 2), (1, 1)])

    def test_several_rows(self):
        self.check("x + y <= 3; y >= 1; x >= 0", term_of(x=1), [(2, 1)], [(0, 1), (1, 1)])
        self.check("x + y <= 3; x - y < 1; x >= 0", term_of(x=1), [(2, 1)], [(0, HALF), (1, HALF)])
        self.check("x >= 1; x <= 3; y > 0; y <= 2", term_of(x=2, y=-3), [(0, 2), (3, 3)], [(1, 2), (2, 3)])

    def test_a_constant_makes_no_difference(self):
        for constant in (0, 5, Fraction(-7, 2)):
            self.check("x + y <= 3; y >= 1; x >= 0", term_of(constant, x=1), [(2, 1)], [(0, 1), (1, 1)])
            self.check("x = 3", term_of(constant, x=1), [(0, -1)], [(0, 1)])

    def test_without_unknowns(self):
        for text in ("", "x >= 1; x <= 3", "x = 7"):
            self.check(text, term_of(), [], [])
            self.check(text, term_of(Fraction(5, 2)), [], [])

    def test_an_unknown_called_t(self):
        self.check("t >= x; t <= 2; x >= 0", term_of(t=1), [(0, 1), (2, 1)], [(1, 1)])
        self.check("t >= x; t <= 2; x >= 0", term_of(x=1), [(2, 1)], [(0, 1), (1, 1)])
        self.check("t = 1", term_of(t=1), [(0, -1)], [(0, 1)])


class Rays(unittest.TestCase):
    def check(self, text, some_term, lower, upper):
        self.assertEqual(lower_ray(rows_of(text), some_term), lower, text)
        self.assertEqual(upper_ray(rows_of(text), some_term), upper, text)

    def test_none_where_there_is_a_bound(self):
        self.check("x >= 1; x <= 3", term_of(x=1), None, None)
        self.check("x > 1; x < 3", term_of(4, x=-2), None, None)
        self.check("x = 3", term_of(x=1), None, None)
        self.check("x = 3; y <= 2", term_of(), None, None)

    def test_one_unknown(self):
        self.check("x >= 1", term_of(x=1), None, point_of(x=1))
        self.check("x < 5", term_of(x=1), point_of(x=-1), None)
        self.check("", term_of(x=1), point_of(x=-1), point_of(x=1))
        self.check("", term_of(x=-1), point_of(x=1), point_of(x=-1))

    def test_at_least_one_and_at_most_minus_one(self):
        self.check("", term_of(x=2), point_of(x=-1), point_of(x=1))
        self.check("", term_of(x=HALF), point_of(x=-2), point_of(x=2))
        self.check("", term_of(x=Fraction(2, 3)), point_of(x=-2), point_of(x=2))
        self.check("y = 3 x", term_of(x=2), point_of(x=Fraction(-2, 3), y=-2), point_of(x=Fraction(2, 3), y=2))

    def test_the_constant_makes_no_difference(self):
        for constant in (0, 7, -7, HALF):
            self.check("x >= 1", term_of(constant, x=1), None, point_of(x=1))
            self.check("x <= 1", term_of(constant, x=1), point_of(x=-1), None)

    def test_bounds_are_replaced(self):
        self.check("x <= 7; y >= x", term_of(y=1), point_of(x=-1, y=-1), point_of(x=0, y=1))
        self.check("x = 3; y >= 5", term_of(y=1), None, point_of(x=0, y=1))
        self.check("x - y = 4; x >= -3", term_of(x=1, y=1), None, point_of(x=1, y=1))

    def test_less_than_becomes_at_most(self):
        self.check("x < 1; y > 0", term_of(y=1), None, point_of(x=0, y=1))
        self.check("x > y; y > 0", term_of(x=1), None, point_of(x=1, y=0))
        self.check("0 < 1; x > 2", term_of(x=1), None, point_of(x=1))

    def test_rows_without_parts(self):
        self.check("0 <= 1; 0 = 0; x > 2", term_of(x=1), None, point_of(x=1))

    def test_unknowns_that_the_system_does_not_have(self):
        self.check("x = 1", term_of(z=1), point_of(x=0, z=-1), point_of(x=0, z=1))
        self.check("x = 1", term_of(x=1, z=2), point_of(x=0, z=-1), point_of(x=0, z=1))

    def test_an_unknown_called_t(self):
        self.check("t >= x", term_of(t=1), point_of(t=-1, x=-1), point_of(t=1, x=0))


class Checked(unittest.TestCase):
    """Many systems and terms."""

    def check_bound(self, system, some_term, side, bound, paper):
        """Check one bound and its paper; side is 1 for the upper one, -1 for the lower one."""
        parts, constant = some_term
        found = plain_bound_row(system, some_term, side)
        if bound is None:
            self.assertIsNone(paper)
            self.assertIsNone(found)
            return
        limit, is_in = Fraction(*bound[0]), bound[1]
        sign, plain_bound, multipliers = found
        multipliers.pop(len(system))
        self.assertEqual((limit, is_in), (plain_bound, sign != "<"))
        self.assertEqual(paper, paper_of(*sorted(multipliers.items())))
        self.assertTrue(is_paper(system, paper))
        numbers, sum_sign, sum_bound = total_of(system, paper)
        self.assertEqual(numbers, {name: side * Fraction(*number) for name, number in parts})
        self.assertEqual(sum_bound, side * (limit - Fraction(*constant)))
        self.assertEqual(sum_sign == "<", not is_in)
        at_bound = [row(parts, "=", pair(limit - Fraction(*constant)))]
        self.assertIs(has_points(system + at_bound), is_in)

    def check_ray(self, system, some_term, side, bound, ray):
        if bound is not None:
            self.assertIsNone(ray)
            return
        flat = [(parts, sign.replace("<=", "<").replace("<", "<="), (0, 1)) for parts, sign, _ in system]
        sign = ">=" if side == 1 else "<="
        self.assertEqual(("point", ray), plain_solve(flat + [row(some_term[0], sign, (side, 1))]))
        start = {name: Fraction(*number) for name, number in solve(system)[1]}
        way = {name: Fraction(*number) for name, number in ray}
        values = []
        for times in (0, HALF, 1, 2, 10, 1000):
            point = point_of(**{name: start.get(name, 0) + times * way[name] for name in way})
            self.assertTrue(all_true_at(system, point))
            values.append(side * Fraction(*value(some_term, point)))
        self.assertTrue(all(second - first >= HALF for first, second in zip(values, values[1:])))

    def test_many(self):
        kinds = {}
        tops = (-2, -1, 0, 0, 1, 3)
        for k, system in enumerate(some_systems(61, 260, "txy", 4) + some_systems(62, 60, "xy", 6)):
            some_term = term_of(Fraction(k % 7 - 3, 1 + k % 2), **{
                name: top for name, top in zip("txyz", (tops[k % 6], tops[k // 6 % 6], tops[k // 5 % 6], k % 9 == 0))
                if top})
            if not has_points(system):
                self.check_no_points(system, some_term)
                continue
            lower, upper = range_of(system, some_term)
            self.check_bound(system, some_term, 1, upper, upper_paper(system, some_term))
            self.check_bound(system, some_term, -1, lower, lower_paper(system, some_term))
            self.check_ray(system, some_term, 1, upper, upper_ray(system, some_term))
            self.check_ray(system, some_term, -1, lower, lower_ray(system, some_term))
            for bound in (lower, upper):
                kind = bound if bound is None else bound[1]
                kinds[kind] = kinds.get(kind, 0) + 1
        self.assertTrue(all(kinds[kind] > 20 for kind in (None, True, False)), kinds)

    def check_no_points(self, system, some_term):
        for function in FUNCTIONS:
            with self.assertRaises(NoPoints):
                function(system, some_term)

    def test_no_points(self):
        for text in ("0 < 0", "0 = 1", "x < 0; x > 0", "x = 1; x = 2", "x + y >= 3; x < 1; 2 y <= 4",
                     "0 <= -1; x <= 1"):
            for some_term in (term_of(), term_of(3), term_of(x=1), term_of(1, y=-1), term_of(z=1), term_of(t=2)):
                self.check_no_points(rows_of(text), some_term)
        with self.assertRaises(LinpapersError):
            range_of(rows_of("0 < 0"), term_of())

    def test_the_papers_show_the_bounds(self):
        system = rows_of("x + y <= 3; x - y < 1; x >= 0; y > -1")
        for some_term in (term_of(x=1), term_of(4, x=3, y=1), term_of(1, x=1, y=-1)):
            (lower, _), (upper, _) = range_of(system, some_term)
            constant = Fraction(*some_term[1])
            self.assertTrue(shows(system, upper_paper(system, some_term),
                                  (some_term[0], "<=", pair(Fraction(*upper) - constant))))
            opposite_parts = tuple((name, (-top, bottom)) for name, (top, bottom) in some_term[0])
            self.assertTrue(shows(system, lower_paper(system, some_term),
                                  (opposite_parts, "<=", pair(constant - Fraction(*lower)))))

    def test_nothing_is_modified(self):
        for text in ("x >= 1; x + y = 3", "x < 1; 0 < 1", ""):
            system = rows_of(text)
            for function in FUNCTIONS:
                first = function(system, term_of(2, x=1))
                self.assertEqual(system, rows_of(text))
                self.assertEqual(function(deepcopy(system), term_of(2, x=1)), first)


if __name__ == "__main__":
    unittest.main()
