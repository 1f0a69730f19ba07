"""linpapers/rows.py: terms, rows and their normal form, unknowns, values, where a row holds, and opposites."""

import itertools
import unittest
from copy import deepcopy
from fractions import Fraction
from math import gcd

from helpers import pair, point_of, true_at
from linpapers.rows import holds, is_point, normal, opposites, row, term, unknowns, value

# More than twenty digits each, without a common divisor.
BIG = 10 ** 25 + 13
HUGE = 10 ** 40 + 1

X = ("x", (1, 1))
ZERO = (0, 1)

# Rows, normal and not, with each sign, with and without parts.
SOME_ROWS = [
    (parts, sign, bound)
    for parts in ((), (X,), (("x", (-1, 1)),), (("x", (2, 3)), ("y", (-4, 1))), (("x", (-6, 1)), ("y", (9, 1))),
                  (("y", (5, 2)),))
    for sign in ("<=", "<", "=")
    for bound in (ZERO, (1, 1), (-1, 1), (2, 1), (-3, 2), (5, 7))]

GRID = [point_of(x=Fraction(x, 2), y=Fraction(y, 3)) for x in range(-5, 6) for y in range(-5, 6)]


def is_normal(some_row):
    """Tell whether a row is normal, by the words of [5]."""
    parts, sign, bound = some_row
    if not parts:
        return bound in ((1, 1), ZERO) or (bound == (-1, 1) and sign != "=")
    tops = [top for _, (top, _) in parts]
    return (all(bottom == 1 for _, (_, bottom) in parts) and gcd(*tops) == 1
            and (sign != "=" or tops[0] > 0))


def multiple(some_row, factor):
    parts, sign, bound = some_row
    return (tuple((name, pair(Fraction(*number) * factor)) for name, number in parts), sign,
            pair(Fraction(*bound) * factor))


class Term(unittest.TestCase):
    def test_any_order(self):
        parts = (("a", (1, 2)), ("b", (-3, 1)), ("c", (2, 1)))
        for pairs in itertools.permutations(parts):
            self.assertEqual(term(list(pairs), (5, 3)), (parts, (5, 3)))

    def test_ascending_as_strings(self):
        one = (1, 1)
        names = ["b", "a2", "ab", "a10", "a", "aa", "a1", "z", "b0"]
        self.assertEqual([name for name, _ in term([(name, one) for name in names], one)[0]],
                         ["a", "a1", "a10", "a2", "aa", "ab", "b", "b0", "z"])

    def test_an_unknown_several_times(self):
        self.assertEqual(term([("x", (1, 2)), ("y", (1, 1)), ("x", (1, 3))], ZERO),
                         ((("x", (5, 6)), ("y", (1, 1))), ZERO))
        self.assertEqual(term([("x", (1, 1)), ("x", (1, 1)), ("x", (-1, 2)), ("x", (3, 2))], ZERO),
                         ((("x", (3, 1)),), ZERO))

    def test_numbers_that_come_to_zero(self):
        self.assertEqual(term([("x", (1, 2)), ("y", (2, 1)), ("x", (-1, 2))], (7, 1)), ((("y", (2, 1)),), (7, 1)))
        self.assertEqual(term([("x", (1, 1)), ("x", (-1, 1)), ("x", (4, 1))], ZERO), ((("x", (4, 1)),), ZERO))
        self.assertEqual(term([("x", ZERO)], (7, 1)), ((), (7, 1)))
        self.assertEqual(term([("x", ZERO), ("y", (3, 1)), ("y", ZERO)], ZERO), ((("y", (3, 1)),), ZERO))

    def test_no_pairs(self):
        for constant in (ZERO, (-3, 4)):
            self.assertEqual(term([], constant), ((), constant))

    def test_kinds(self):
        parts, constant = term([("y", (1, 2)), ("x", (1, 1))], (1, 3))
        self.assertEqual((type(parts), type(parts[0]), type(parts[0][1])), (tuple, tuple, tuple))
        self.assertIs(type(constant), tuple)

    def test_numbers_stay_what_they_are(self):
        self.assertEqual(term([("x", (6, 1)), ("y", (-4, 3))], (8, 1)), ((("x", (6, 1)), ("y", (-4, 3))), (8, 1)))

    def test_the_list_stays_as_it_was(self):
        for pairs in ([("y", (1, 2)), ("x", (1, 1)), ("y", (-1, 2)), ("z", ZERO)], []):
            before = deepcopy(pairs)
            term(pairs, ZERO)
            row(pairs, ">", ZERO)
            self.assertEqual(pairs, before)

    def test_large(self):
        self.assertEqual(term([("x", (BIG, 3)), ("x", (HUGE, 2))], (1, BIG)),
                         ((("x", pair(Fraction(BIG, 3) + Fraction(HUGE, 2))),), (1, BIG)))


class Row(unittest.TestCase):
    def test_signs(self):
        pairs = [("y", (-3, 1)), ("x", (2, 1))]
        parts, turned = (("x", (2, 1)), ("y", (-3, 1))), (("x", (-2, 1)), ("y", (3, 1)))
        self.assertEqual(row(pairs, "<=", (5, 2)), (parts, "<=", (5, 2)))
        self.assertEqual(row(pairs, "<", (5, 2)), (parts, "<", (5, 2)))
        self.assertEqual(row(pairs, "=", (5, 2)), (parts, "=", (5, 2)))
        self.assertEqual(row(pairs, ">=", (5, 2)), (turned, "<=", (-5, 2)))
        self.assertEqual(row(pairs, ">", (5, 2)), (turned, "<", (-5, 2)))
        self.assertEqual(row(pairs, ">=", ZERO), (turned, "<=", ZERO))
        self.assertEqual(row(pairs, ">", (-1, 1)), (turned, "<", (1, 1)))

    def test_signs_without_parts(self):
        self.assertEqual(row([], ">=", (4, 1)), ((), "<=", (-1, 1)))
        self.assertEqual(row([], ">", (4, 1)), ((), "<", (-1, 1)))
        self.assertEqual(row([], ">=", (-1, 3)), ((), "<=", (1, 1)))
        self.assertEqual(row([], ">", ZERO), ((), "<", ZERO))
        self.assertEqual(row([], ">=", ZERO), ((), "<=", ZERO))

    def test_pairs_as_in_a_term(self):
        self.assertEqual(row([("y", (1, 1)), ("x", (1, 2)), ("y", (1, 1)), ("z", ZERO)], "<=", (1, 1)),
                         ((("x", (1, 1)), ("y", (4, 1))), "<=", (2, 1)))
        self.assertEqual(row([("a2", (1, 1)), ("a10", (-1, 1))], "=", (1, 1)),
                         ((("a10", (1, 1)), ("a2", (-1, 1))), "=", (-1, 1)))

    def test_pairs_that_come_to_nothing(self):
        self.assertEqual(row([("x", (1, 1)), ("x", (-1, 1))], "<", (-7, 2)), ((), "<", (-1, 1)))
        self.assertEqual(row([("x", ZERO)], "=", (-7, 2)), ((), "=", (1, 1)))

    def test_normal_form(self):
        self.assertEqual(row([("x", (2, 3)), ("y", (4, 1))], "<", (1, 1)),
                         ((("x", (1, 1)), ("y", (6, 1))), "<", (3, 2)))
        self.assertEqual(row([("x", (-2, 1))], "=", (1, 1)), ((X,), "=", (-1, 2)))
        self.assertEqual(row([("x", (2, 1))], ">=", (1, 1)), ((("x", (-1, 1)),), "<=", (-1, 2)))


class Normal(unittest.TestCase):
    def test_common_divisors(self):
        self.assertEqual(normal(((("x", (4, 1)), ("y", (-6, 1))), "<=", (8, 1))),
                         ((("x", (2, 1)), ("y", (-3, 1))), "<=", (4, 1)))
        self.assertEqual(normal(((("x", (6, 1)), ("y", (10, 1)), ("z", (15, 1))), "<", (30, 1))),
                         ((("x", (6, 1)), ("y", (10, 1)), ("z", (15, 1))), "<", (30, 1)))
        self.assertEqual(normal(((("x", (-5, 1)),), "<", (10, 1))), ((("x", (-1, 1)),), "<", (2, 1)))

    def test_fractions(self):
        self.assertEqual(normal(((("x", (1, 2)), ("y", (1, 3))), "<=", (1, 1))),
                         ((("x", (3, 1)), ("y", (2, 1))), "<=", (6, 1)))
        self.assertEqual(normal(((("x", (2, 3)), ("y", (-4, 5))), "<", (1, 7))),
                         ((("x", (5, 1)), ("y", (-6, 1))), "<", (15, 14)))
        self.assertEqual(normal(((("x", (3, 4)), ("y", (9, 2))), "=", ZERO)),
                         ((("x", (1, 1)), ("y", (6, 1))), "=", ZERO))

    def test_a_bound_that_is_a_fraction_stays_one(self):
        self.assertEqual(normal(((X,), "<=", (1, 2))), ((X,), "<=", (1, 2)))
        self.assertEqual(normal(((("x", (2, 1)),), "<=", (-1, 3))), ((X,), "<=", (-1, 6)))
        self.assertEqual(normal(((("x", (4, 1)), ("y", (2, 1))), "=", (1, 1))),
                         ((("x", (2, 1)), ("y", (1, 1))), "=", (1, 2)))

    def test_the_bound_is_not_counted(self):
        self.assertEqual(normal(((("x", (2, 1)), ("y", (4, 1))), "<=", (3, 1))),
                         ((("x", (1, 1)), ("y", (2, 1))), "<=", (3, 2)))
        self.assertEqual(normal(((("x", (3, 1)), ("y", (2, 1))), "<=", (6, 1))),
                         ((("x", (3, 1)), ("y", (2, 1))), "<=", (6, 1)))

    def test_the_first_number_of_an_equality(self):
        self.assertEqual(normal(((("x", (-1, 1)), ("y", (2, 1))), "=", (3, 1))),
                         ((("x", (1, 1)), ("y", (-2, 1))), "=", (-3, 1)))
        self.assertEqual(normal(((("x", (-1, 2)),), "=", ZERO)), ((X,), "=", ZERO))
        self.assertEqual(normal(((("x", (1, 2)), ("y", (-1, 1))), "=", (1, 1))),
                         ((("x", (1, 1)), ("y", (-2, 1))), "=", (2, 1)))
        for sign in ("<=", "<"):
            self.assertEqual(normal(((("x", (-1, 1)), ("y", (2, 1))), sign, (3, 1))),
                             ((("x", (-1, 1)), ("y", (2, 1))), sign, (3, 1)))

    def test_without_parts(self):
        for bound in ((1, 1), (2, 1), (1, 9), (BIG, HUGE)):
            for sign in ("<=", "<", "="):
                self.assertEqual(normal(((), sign, bound)), ((), sign, (1, 1)))
                self.assertEqual(normal(((), sign, (-bound[0], bound[1]))),
                                 ((), sign, (1, 1) if sign == "=" else (-1, 1)))
        for sign in ("<=", "<", "="):
            self.assertEqual(normal(((), sign, ZERO)), ((), sign, ZERO))

    def test_what_is_made_is_normal(self):
        for some_row in SOME_ROWS:
            self.assertTrue(is_normal(normal(some_row)), some_row)
            self.assertEqual(normal(some_row)[1], some_row[1])

    def test_a_normal_row_stays(self):
        found = 0
        for some_row in SOME_ROWS:
            for one in (some_row, normal(some_row)):
                if is_normal(one):
                    found += 1
                    self.assertEqual(normal(one), one)
                    self.assertEqual(row(list(one[0]), one[1], one[2]), one)
        self.assertGreater(found, len(SOME_ROWS))

    def test_multiples(self):
        for some_row in SOME_ROWS:
            for factor in (Fraction(2), Fraction(3, 7), Fraction(1, 6), Fraction(BIG, HUGE)):
                self.assertEqual(normal(multiple(some_row, factor)), normal(some_row), some_row)
                if some_row[1] == "=":
                    self.assertEqual(normal(multiple(some_row, -factor)), normal(some_row), some_row)

    def test_rows_that_differ(self):
        self.assertNotEqual(normal(((X,), "<=", (1, 1))), normal(((("x", (-1, 1)),), "<=", (-1, 1))))
        self.assertNotEqual(normal(((X,), "<=", (1, 1))), normal(((X,), "<", (1, 1))))

    def test_it_says_the_same(self):
        for some_row in SOME_ROWS:
            for point in GRID:
                self.assertEqual(true_at(normal(some_row), point), true_at(some_row, point), (some_row, point))

    def test_large(self):
        self.assertEqual(normal(((("x", (BIG * HUGE, 1)), ("y", (-BIG * (HUGE + 1), 1))), "<=", (BIG, 1))),
                         ((("x", (HUGE, 1)), ("y", (-HUGE - 1, 1))), "<=", (1, 1)))
        self.assertEqual(normal(((("x", (1, BIG)), ("y", (1, BIG + 1))), "<", (1, HUGE))),
                         ((("x", (BIG + 1, 1)), ("y", (BIG, 1))), "<", pair(Fraction(BIG * (BIG + 1), HUGE))))
        self.assertEqual(normal(((("x", (-BIG, HUGE)),), "=", (1, 1))), ((X,), "=", pair(Fraction(-HUGE, BIG))))


class Unknowns(unittest.TestCase):
    def test_ascending_each_once(self):
        system = [row([("z", (1, 1)), ("a2", (1, 1))], "<=", ZERO), row([], "<", ZERO),
                  row([("b", (1, 1)), ("z", (-2, 1))], "=", ZERO), row([("a10", (-1, 1))], "<", (1, 1))]
        self.assertEqual(unknowns(system), ["a10", "a2", "b", "z"])

    def test_none(self):
        self.assertEqual(unknowns([]), [])
        self.assertEqual(unknowns([((), "<=", ZERO)]), [])

    def test_a_new_list(self):
        system = [((X,), "<=", ZERO)]
        first = unknowns(system)
        self.assertIs(type(first), list)
        first.append("y")
        self.assertEqual(unknowns(system), ["x"])
        self.assertEqual(system, [((X,), "<=", ZERO)])


class Value(unittest.TestCase):
    def test_ordinary(self):
        some_term = ((("x", (2, 1)), ("y", (-1, 3))), (1, 2))
        self.assertEqual(value(some_term, point_of(x=3, y=6)), (9, 2))
        self.assertEqual(value(some_term, point_of(x=Fraction(1, 4), y=3)), ZERO)

    def test_unknowns_that_the_point_does_not_have(self):
        some_term = ((("x", (2, 1)), ("y", (-1, 3))), (1, 2))
        self.assertEqual(value(some_term, ()), (1, 2))
        self.assertEqual(value(some_term, point_of(y=3)), (-1, 2))
        self.assertEqual(value(some_term, point_of(x=1)), (5, 2))

    def test_unknowns_that_the_term_does_not_have(self):
        self.assertEqual(value(((X,), ZERO), point_of(a=7, x=2, z=9)), (2, 1))

    def test_the_constant(self):
        self.assertEqual(value(((), (-5, 3)), point_of(x=1)), (-5, 3))
        self.assertEqual(value(((X,), (-5, 3)), point_of(x=1)), (-2, 3))

    def test_against_fractions(self):
        for a, b, c in itertools.product((-2, 0, Fraction(3, 5)), repeat=3):
            some_term = term([("x", pair(a)), ("y", pair(b))], pair(c))
            for point in GRID:
                x, y = [Fraction(*number) for _, number in point]
                self.assertEqual(value(some_term, point), pair(a * x + b * y + c))

    def test_large(self):
        self.assertEqual(value(((("x", (BIG, 1)), ("y", (1, HUGE))), (-1, 1)), point_of(x=HUGE, y=HUGE)),
                         (BIG * HUGE, 1))


class Holds(unittest.TestCase):
    def test_at_the_border_and_beside_it(self):
        for sign, results in (("<=", (True, True, False)), ("<", (True, False, False)), ("=", (False, True, False))):
            for x, result in zip((Fraction(1, 2), Fraction(2, 3), Fraction(3, 4)), results):
                # The second row is not normal.
                self.assertIs(holds(((X,), sign, (2, 3)), point_of(x=x)), result)
                self.assertIs(holds(((("x", (6, 1)),), sign, (4, 1)), point_of(x=x)), result)

    def test_close_to_the_border(self):
        near = Fraction(HUGE - 1, HUGE)
        for sign, results in (("<=", (True, False)), ("<", (True, False)), ("=", (False, False))):
            self.assertIs(holds(((X,), sign, (1, 1)), point_of(x=near)), results[0])
            self.assertIs(holds(((X,), sign, (1, 1)), point_of(x=1 / near)), results[1])

    def test_without_parts(self):
        for point in ((), point_of(x=5)):
            for sign, results in (("<=", (True, True, False)), ("<", (True, False, False)),
                                  ("=", (False, True, False))):
                for bound, result in zip(((1, 1), ZERO, (-1, 1)), results):
                    self.assertIs(holds(((), sign, bound), point), result)
            self.assertIs(holds(((), "<=", (-7, 2)), point), False)
            self.assertIs(holds(((), "<", (7, 2)), point), True)

    def test_unknowns_that_the_point_does_not_have(self):
        self.assertIs(holds(((X,), "<=", (-1, 1)), ()), False)
        self.assertIs(holds(((X,), "=", ZERO), point_of(y=1)), True)

    def test_on_a_grid(self):
        for some_row in SOME_ROWS:
            for point in GRID:
                self.assertIs(holds(some_row, point), true_at(some_row, point), (some_row, point))


class IsPoint(unittest.TestCase):
    def test_no_rows(self):
        self.assertIs(is_point([], ()), True)
        self.assertIs(is_point([], point_of(x=1)), True)

    def test_all_rows_hold(self):
        system = [row([X], "<=", (2, 1)), row([X], ">", (1, 1)), row([("y", (1, 1))], "=", ZERO)]
        self.assertIs(is_point(system, point_of(x=2)), True)
        self.assertIs(is_point(system, point_of(x=2, y=0)), True)

    def test_one_row_does_not_hold(self):
        system = [row([X], "<=", (2, 1)), row([X], ">", (1, 1)), row([("y", (1, 1))], "=", ZERO)]
        for point in (point_of(x=3), point_of(x=1), point_of(x=2, y=1)):
            self.assertIs(is_point(system, point), False)
        self.assertIs(is_point(system + [((), "<", ZERO)], point_of(x=2)), False)

    def test_nothing_is_modified(self):
        system = [((X,), "<=", (2, 1)), ((), "<", (1, 1))]
        before = deepcopy(system)
        is_point(system, point_of(x=3))
        self.assertEqual(system, before)


class Opposites(unittest.TestCase):
    def test_at_most(self):
        self.assertEqual(opposites(((("x", (2, 1)), ("y", (-1, 1))), "<=", (1, 2))),
                         [((("x", (-2, 1)), ("y", (1, 1))), "<", (-1, 2))])

    def test_less_than(self):
        self.assertEqual(opposites(((("x", (2, 1)), ("y", (-1, 1))), "<", (1, 2))),
                         [((("x", (-2, 1)), ("y", (1, 1))), "<=", (-1, 2))])

    def test_equal(self):
        self.assertEqual(opposites(((("x", (2, 1)), ("y", (-1, 1))), "=", (1, 2))),
                         [((("x", (2, 1)), ("y", (-1, 1))), "<", (1, 2)),
                          ((("x", (-2, 1)), ("y", (1, 1))), "<", (-1, 2))])

    def test_without_parts(self):
        self.assertEqual(opposites(((), "<=", (1, 1))), [((), "<", (-1, 1))])
        self.assertEqual(opposites(((), "<=", ZERO)), [((), "<", ZERO)])
        self.assertEqual(opposites(((), "<=", (-1, 1))), [((), "<", (1, 1))])
        self.assertEqual(opposites(((), "<", (1, 1))), [((), "<=", (-1, 1))])
        self.assertEqual(opposites(((), "<", ZERO)), [((), "<=", ZERO)])
        self.assertEqual(opposites(((), "<", (-1, 1))), [((), "<=", (1, 1))])
        self.assertEqual(opposites(((), "=", ZERO)), [((), "<", ZERO), ((), "<", ZERO)])
        self.assertEqual(opposites(((), "=", (1, 1))), [((), "<", (1, 1)), ((), "<", (-1, 1))])

    def test_just_one_holds(self):
        for some_row in SOME_ROWS:
            found = opposites(some_row)
            self.assertIs(type(found), list)
            self.assertEqual(len(found), 2 if some_row[1] == "=" else 1)
            for opposite in found:
                self.assertTrue(is_normal(opposite), (some_row, opposite))
            for point in GRID:
                held = [one for one in [some_row] + found if true_at(one, point)]
                self.assertEqual(len(held), 1, (some_row, point))

    def test_a_new_list(self):
        some_row = ((X,), "=", (1, 1))
        first = opposites(some_row)
        first.clear()
        self.assertEqual(len(opposites(some_row)), 2)


if __name__ == "__main__":
    unittest.main()
