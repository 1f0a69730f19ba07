"""linpapers/interpolants.py: the told interpolant of two formulas, and the share of two systems."""

import unittest
from copy import deepcopy
from fractions import Fraction

from formulahelpers import (
    FALSE, TRUE, TooMany, formulas_of, found_by, pushed_in, row_of, some_formulas, some_lists, true_of)
from helpers import is_so, pair, paper_of, plain_solve, rows_of, some_systems, total_of
from linpapers.errors import FormulaError
from linpapers.formulas import format_formula, plain, read_formula, unknowns_of
from linpapers.interpolants import interpolant, share
from linpapers.papers import is_paper, shows, sum_of
from linpapers.proofs import decide, flaw_of_proof
from linpapers.rows import row
from linpapers.systems import has_points, solve

HALF = Fraction(1, 2)


def drawn(assumed, sides, proof):
    """Return the formula that [29] tells for a proof."""
    if proof[0] == "rows":
        numbers, bound, signs = {}, Fraction(0), []
        for at, multiplier in proof[1]:
            if sides[at] == 1:
                parts, sign, own = assumed[at][1]
                for name, amount in parts:
                    numbers[name] = numbers.get(name, 0) + Fraction(*amount) * Fraction(*multiplier)
                bound += Fraction(*own) * Fraction(*multiplier)
                signs.append(sign)
        sign = "<" if "<" in signs else "<=" if "<=" in signs else "="
        if any(numbers.values()):
            return ("row", row([(name, pair(number)) for name, number in numbers.items()], sign, pair(bound)))
        return TRUE if is_so(0, sign, bound) else FALSE
    first = sides[proof[1]] == 1
    if proof[0] == "false":
        return FALSE if first else TRUE
    parts = assumed[proof[1]][1]
    if proof[0] == "and":
        return drawn(assumed + list(parts), sides + [sides[proof[1]]] * len(parts), proof[2])
    inner = tuple(drawn(assumed + [part], sides + [sides[proof[1]]], one) for part, one in zip(parts, proof[2]))
    return ("or" if first else "and", inner)


class Told(unittest.TestCase):
    def check(self, first, second, text):
        """Check the interpolant of two texts, which is given as a text too."""
        formulas = [read_formula(first), read_formula(second)]
        found = interpolant(*formulas)
        self.assertEqual(format_formula(found), text, (first, second))
        self.assertEqual(found, read_formula(text))
        self.check_between(*formulas, found)

    def check_between(self, first, second, formula):
        """Check that a formula is an interpolant of two others."""
        known = [set(unknowns_of(plain(some))) for some in (first, second)]
        self.assertLessEqual(set(unknowns_of(formula)), known[0] & known[1])
        for formulas in ([first, ("not", formula)], [formula, second]):
            word, proof = decide(formulas)
            self.assertEqual(word, "proof", (first, second))
            self.assertIsNone(flaw_of_proof(formulas, proof))

    def test_rows(self):
        self.check("[x <= 1]", "[x >= 2]", "[x <= 1]")
        self.check("[x >= 2]", "[x <= 1]", "[-x <= -2]")
        self.check("[x < 1]", "[x = 1]", "[x < 1]")
        self.check("[x = 1]", "[x < 1]", "[x = 1]")
        self.check("[x = 1]", "[x = 2]", "[x = 1]")

    def test_sums_of_rows(self):
        self.check("[x + y <= 1] and [y >= 0]", "[x >= 2]", "[x <= 1]")
        self.check("[x >= 2]", "[x + y <= 1] and [y >= 0]", "[-x <= -2]")
        self.check("[x <= y] and [y < 3]", "[x > z] and [z >= 4]", "[x < 3]")
        self.check("[x = y] and [y = 3]", "[x = z] and [z = 4]", "[x = 3]")
        self.check("[x <= 1] and [y <= 1]", "[x + y >= 3]", "[x + y <= 2]")
        self.check("[x < 1] and [y <= 1]", "[x + y >= 2]", "[x + y < 2]")

    def test_made_normal(self):
        self.check("[2 x + y <= 1] and [y >= 0]", "[x >= 2]", "[x <= 1/2]")
        self.check("[2 x + 3 y <= 1] and [x - 3 y <= 4]", "[x > 2]", "[x <= 5/3]")
        self.check("[x = 3 y] and [y = -1/2]", "[x = z] and [z > 0]", "[x = -3/2]")
        self.check("[x <= 1] and [y <= 1]", "[3 x + 3 y >= 7]", "[x + y <= 2]")
        self.check("[3 x <= 1]", "[5 x >= 2]", "[x <= 1/3]")
        # The told paper multiplies the row of the first side by a number below 0.
        self.check("[x + y = 1]", "[x + y < 0]", "[x + y = 1]")

    def test_rows_without_parts(self):
        self.check("[x < 0] and [x > 0]", "[y <= 1]", "false")
        self.check("[y <= 1]", "[x < 0] and [x > 0]", "true")
        self.check("[0 < 0]", "[x <= 1]", "false")
        self.check("[x <= 1]", "[0 = 1]", "true")
        self.check("true", "[x < 0] and [x > 0]", "true")
        self.check("[x <= 1] and [x >= 2]", "[y <= 1]", "false")
        # The first one of the two equal rows stays, which is of the second side.
        self.check("[x <= 1] and [x >= 2]", "[x <= 1]", "[-x <= -2]")
        self.check("[x <= 1]", "[x <= 1] and [y = 0] and [y > 0]", "true")
        self.check("[x = 1] and [x = 2]", "true", "false")

    def test_false(self):
        self.check("false", "true", "false")
        self.check("true", "false", "true")
        self.check("false", "false", "false")
        self.check("false", "[x <= 1]", "false")
        self.check("[x <= 1]", "not true", "true")
        self.check("true and false", "[x < 0] and [x > 0]", "false")
        self.check("[x < 0] and true", "true and false", "true")

    def test_and(self):
        self.check("[x <= 1] and true", "[x >= 2]", "[x <= 1]")
        self.check("[x <= 1]", "true and [x >= 2]", "[x <= 1]")
        self.check("true and ([x <= 1] and [y <= 1])", "true and (true and [x + y > 2])", "[x + y <= 2]")
        self.check("not ([x > 1] or [y > 1])", "not ([x + y <= 2] or false)", "[x + y <= 2]")

    def test_or_of_the_first_side(self):
        self.check("[x <= 1] or [y <= 1]", "[x > 2] and [y > 3]", "[x <= 1] or [y <= 1]")
        self.check("false or [x <= 1] or [x <= 0]", "[x > 2]", "false or [x <= 1] or [x <= 0]")
        self.check("not [x = 0]", "[x = 0]", "[x < 0] or [-x < 0]")
        self.check("[x <= 1] or [x < 0] and [x > 0]", "[x > 2]", "[x <= 1] or [x < 0]")
        self.check("[x <= 1] or [y < 0] and [y > 0]", "[x > 2]", "[x <= 1] or false")

    def test_or_of_the_second_side(self):
        self.check("[x > 2] and [y > 3]", "[x <= 1] or [y <= 1]", "[-x < -2] and [-y < -3]")
        self.check("[x > 2]", "false or [x <= 1] or [x <= 0]", "true and [-x < -2] and [-x < -2]")
        self.check("[x = 0]", "not [x = 0]", "[x = 0] and [x = 0]")
        self.check("[x > 2]", "[x <= 1] or [y < 0] and [y > 0]", "[-x < -2] and true")

    def test_ors_of_both_sides(self):
        self.check("[x <= 1] or [y <= 1]", "[x > 2] and [y > 1] or [x > 1] and [y > 2]",
                   "[x <= 1] and [x <= 1] or [y <= 1] and [y <= 1]")
        self.check("true and ([x <= 1] or [y <= 1])", "[x > 2] and [y > 1] or [x > 1] and [y > 2]",
                   "([x <= 1] or [y <= 1]) and ([x <= 1] or [y <= 1])")

    def test_parts_are_of_the_side_of_their_formula(self):
        self.check("true and (true and ([x <= 1] or [x <= 0]))", "[x > 3]", "[x <= 1] or [x <= 0]")
        self.check("[x > 3]", "true and (true and ([x <= 1] or [x <= 0]))", "[-x < -3] and [-x < -3]")
        self.check("[x <= 0] or true and ([x <= 1] or false)", "[x > 3]", "[x <= 0] or ([x <= 1] or false)")
        self.check("[x > 3]", "[x <= 0] or true and ([x <= 1] or false)", "[-x < -3] and ([-x < -3] and true)")
        self.check("true and true and true", "true and true and ([x < 0] and [x > 0])", "true")
        self.check("true and true and ([x < 0] and [x > 0])", "true and true and true", "false")

    def test_none(self):
        for first, second in (("[x <= 1]", "[x >= 1]"), ("true", "true"), ("[x <= 1] or [x >= 2]", "[x > 1]"),
                              ("not [x = 0]", "[y = 0]"), ("[x <= y]", "not [x < y]")):
            self.assertIsNone(interpolant(read_formula(first), read_formula(second)))

    def test_too_many(self):
        rows = [("and", tuple(row_of(f"x <= {k}") for k in range(5))),
                ("and", tuple(row_of(f"x > {k}") for k in range(4)))]
        for formulas in (rows, rows[::-1]):
            with self.assertRaises(FormulaError) as caught:
                interpolant(*formulas)
            self.assertEqual((caught.exception.place, caught.exception.what), (0, "too many rows"))
        chain = FALSE
        for _ in range(150):
            chain = ("or", (FALSE, chain))
        with self.assertRaises(FormulaError) as caught:
            interpolant(chain, TRUE)
        self.assertEqual((caught.exception.place, caught.exception.what), (0, "too many steps"))

    def test_beyond_the_limits_of_a_formula(self):
        chain, found = FALSE, FALSE
        for _ in range(60):
            chain, found = ("or", (FALSE, chain)), ("or", (FALSE, found))
        self.assertEqual(interpolant(chain, TRUE), found)
        self.assertEqual(interpolant(TRUE, chain), drawn([TRUE, chain], [1, 2], decide([TRUE, chain])[1]))

    def test_many(self):
        counts = {None: 0}
        lists = zip(some_formulas(141, 400), some_formulas(142, 400))
        more = zip(some_formulas(148, 900, depth=2, names="x"), some_formulas(149, 900, depth=2, names="x"))
        wider = [some for some in some_lists(143, 200, 2, depth=4) if len(some) == 2]
        for first, second in list(lists) + list(more) + wider:
            try:
                word, paper = found_by([first, second])[0]
            except TooMany:
                continue
            found = interpolant(first, second)
            if word == "point":
                self.assertIsNone(found)
                counts[None] += 1
                continue
            self.assertEqual(found, drawn([pushed_in(first), pushed_in(second)], [1, 2], paper))
            counts[found[0]] = counts.get(found[0], 0) + 1
            try:
                self.check_between(first, second, found)
            except FormulaError:
                counts["too many"] = counts.get("too many", 0) + 1
        for word, least in ((None, 100), ("row", 20), ("true", 20), ("false", 20), ("or", 5), ("and", 5)):
            self.assertGreaterEqual(counts.get(word, 0), least, counts)

    def test_points(self):
        first, second = read_formula("[x <= 1] or [y <= x]"), read_formula("[x > 1] and [y > x + 2]")
        found = interpolant(first, second)
        for x in range(-3, 4):
            for y in range(-3, 8):
                point = (("x", (x, 1)), ("y", (y, 1)))
                self.assertTrue(true_of(found, point) or not true_of(first, point))
                self.assertFalse(true_of(found, point) and true_of(second, point))


class Share(unittest.TestCase):
    def check(self, first, second, sum_row, *pairs):
        self.assertEqual(share(rows_of(first), rows_of(second)), (sum_row, paper_of(*pairs)), (first, second))

    def parts(self, **numbers):
        return tuple((name, pair(numbers[name])) for name in sorted(numbers))

    def test_a_row(self):
        self.check("x <= 1", "x >= 2", (self.parts(x=1), "<=", (1, 1)), (0, 1))
        self.check("x >= 2", "x <= 1", (self.parts(x=-1), "<=", (-2, 1)), (0, 1))
        self.check("y <= 5; x < 1", "z = 3; x >= 2", (self.parts(x=1), "<", (1, 1)), (1, 1))

    def test_the_row_need_not_be_normal(self):
        self.check("x <= 1; y >= 0", "2 x + 3 y > 2; y < 0", (self.parts(x=2), "<=", (2, 1)), (0, 2))
        self.check("x <= 1; 3 y <= 1", "2 x + 3 y > 3", (self.parts(x=2, y=3), "<=", (3, 1)), (0, 2), (1, 3))
        self.check("x <= 1; y <= 1", "3 x + 2 y > 6", (self.parts(x=3, y=2), "<=", (5, 1)), (0, 3), (1, 2))
        self.check("x <= 1", "2 x + 3 y > 8; y <= 2", (self.parts(x=2), "<=", (2, 1)), (0, 2))
        self.check("x = 1", "x = 2", (self.parts(x=-1), "=", (-1, 1)), (0, -1))
        self.check("x = 1", "x < 0", (self.parts(x=-1), "=", (-1, 1)), (0, -1))
        self.check("2 x - y <= 1; x + y <= 1", "x >= 1", (self.parts(x=3), "<=", (2, 1)), (0, 1), (1, 1))

    def test_indices_of_the_first_system(self):
        self.check("a = 0; x + y <= 3; b = 1; y >= 1", "x > 2; a = 0", (self.parts(x=1), "<=", (2, 1)), (1, 1), (3, 1))

    def test_no_pair_about_the_first_system(self):
        self.check("x <= 1", "y < 0; y > 0", ((), "=", (0, 1)))
        self.check("", "y < 0; y > 0", ((), "=", (0, 1)))
        self.check("x <= 1", "0 < 0", ((), "=", (0, 1)))

    def test_all_pairs_about_the_first_system(self):
        self.check("y < 0; y > 0", "x <= 1", ((), "<", (0, 1)), (0, 1), (1, 1))
        self.check("y <= 0; y >= 1", "", ((), "<=", (-1, 1)), (0, 1), (1, 1))

    def test_none(self):
        for first, second in (("x <= 1", "x >= 1"), ("", ""), ("", "x = 1"), ("x = 1", ""), ("x < y", "y < z")):
            self.assertIsNone(share(rows_of(first), rows_of(second)))

    def test_many(self):
        counts = [0, 0]
        firsts, seconds = some_systems(144, 300, "xyz", 4), some_systems(145, 300, "wxy", 4)
        for first, second in zip(firsts + some_systems(146, 50, "x", 3), seconds + some_systems(147, 50, "x", 3)):
            before = deepcopy((first, second))
            found = share(first, second)
            self.assertEqual((first, second), before)
            word, paper = plain_solve(first + second)
            self.assertIs(found is None, word == "point")
            if found is not None:
                some_row, own = found
                self.assertEqual(own, tuple((at, number) for at, number in paper if at < len(first)))
                self.check_sum(first, own, some_row)
                self.assertIs(has_points(second + [row(list(some_row[0]), *some_row[1:])]), False)
            counts[found is None] += 1
        self.assertGreater(min(counts), 30)

    def check_sum(self, system, paper, some_row):
        numbers, sign, bound = total_of(system, paper)
        self.assertEqual(some_row, (self.parts(**numbers), sign, pair(bound)))
        self.assertEqual(sum_of(system, paper), some_row)
        self.assertIs(is_paper(system, paper), True)
        self.assertIs(shows(system, paper, some_row), True)

    def test_the_refutation_of_both(self):
        first, second = rows_of("x <= 1; y <= 1"), rows_of("3 x + 2 y > 6; x > 5")
        self.assertEqual(share(first, second)[1], solve(first + second)[1][:1])
        self.assertEqual(share(first, second[:1])[1], solve(first + second[:1])[1][:2])


if __name__ == "__main__":
    unittest.main()
