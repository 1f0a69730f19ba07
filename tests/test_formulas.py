"""linpapers/formulas.py: where formulas are true, their plain forms, their unknowns and their texts."""

import unittest
from fractions import Fraction

from formulahelpers import FALSE, TRUE, formulas_of, grid, pushed_in, row_of, some_formulas, true_of
from helpers import point_of, rows_of
from linpapers.formulas import format_formula, is_true, plain, read_formula, unknowns_of

HALF = Fraction(1, 2)

A, B, C, D = row_of("x <= 1"), row_of("y < 2"), row_of("x + y = 3"), row_of("z >= 1/2")
NOT_A, NOT_B, NOT_D = row_of("x > 1"), row_of("y >= 2"), row_of("z < 1/2")
NOT_C = ("or", (row_of("x + y < 3"), row_of("x + y > 3")))

MANY = some_formulas(101, 250) + some_formulas(102, 100, depth=4, names="xyz", most=2)


def is_plain(formula):
    """Tell whether a formula has no `not` in it."""
    word = formula[0]
    return word in ("row", "true", "false") or (word != "not" and all(is_plain(part) for part in formula[1]))


def is_right_tuple(formula):
    """Tell whether a formula and its parts are tuples as [21] tells."""
    if type(formula) is not tuple or (formula[0] in ("and", "or") and type(formula[1]) is not tuple):
        return False
    if formula[0] in ("and", "or"):
        return len(formula) == 2 and len(formula[1]) >= 2 and all(is_right_tuple(part) for part in formula[1])
    return len(formula) == (1 if formula[0] in ("true", "false") else 2)


class IsTrue(unittest.TestCase):
    def check(self, formula, result, **numbers):
        self.assertIs(is_true(formula, point_of(**numbers)), result, (formula, numbers))

    def test_rows(self):
        self.check(A, True, x=1)
        self.check(A, False, x=Fraction(4, 3))
        self.check(B, True, y=Fraction(5, 3))
        self.check(B, False, y=2)
        self.check(C, True, x=HALF, y=Fraction(5, 2))
        self.check(C, False, x=HALF, y=2)
        self.check(row_of("0 < 0"), False, x=1)
        self.check(row_of("0 <= 0"), True)

    def test_unknowns_that_the_point_does_not_have(self):
        self.check(A, True)
        self.check(A, True, y=7)
        self.check(D, False, x=7)
        self.check(C, True, y=3)
        self.check(("not", C), True)
        self.check(("and", (A, B, C)), False)

    def test_true_and_false(self):
        self.check(TRUE, True)
        self.check(FALSE, False)
        self.check(TRUE, True, x=1)
        self.check(FALSE, False, x=1)

    def test_not(self):
        self.check(("not", A), False, x=1)
        self.check(("not", A), True, x=2)
        self.check(("not", TRUE), False)
        self.check(("not", FALSE), True)
        self.check(("not", ("not", A)), True, x=1)
        self.check(("not", ("not", A)), False, x=2)

    def test_and(self):
        for x, y, result in ((1, 1, True), (1, 2, False), (2, 1, False), (2, 2, False)):
            self.check(("and", (A, B)), result, x=x, y=y)
            self.check(("not", ("and", (A, B))), not result, x=x, y=y)
        self.check(("and", (A, B, D)), False, x=1, y=1, z=0)
        self.check(("and", (A, B, D)), True, x=1, y=1, z=1)
        self.check(("and", (A, FALSE)), False, x=1)
        self.check(("and", (TRUE, TRUE)), True)

    def test_or(self):
        for x, y, result in ((1, 1, True), (1, 2, True), (2, 1, True), (2, 2, False)):
            self.check(("or", (A, B)), result, x=x, y=y)
            self.check(("not", ("or", (A, B))), not result, x=x, y=y)
        self.check(("or", (A, B, D)), True, x=2, y=2, z=HALF)
        self.check(("or", (A, B, D)), False, x=2, y=2, z=0)
        self.check(("or", (FALSE, FALSE)), False)
        self.check(("or", (FALSE, TRUE)), True)

    def test_nested(self):
        formula = ("and", (("or", (A, ("not", B))), ("not", ("and", (C, ("or", (D, FALSE)))))))
        self.check(formula, False, x=2, y=1, z=1)
        self.check(formula, True, x=2, y=3, z=1)
        self.check(formula, False, x=1, y=2, z=HALF)
        self.check(formula, True, x=1, y=2, z=Fraction(1, 3))
        self.check(formula, True, x=1, y=Fraction(3, 2), z=1)

    def test_many(self):
        counts = {True: 0, False: 0}
        for k, formula in enumerate(MANY):
            for point in grid()[k % 7::7] + [(), point_of(y=-1)]:
                result = is_true(formula, point)
                self.assertIs(result, true_of(formula, point), (formula, point))
                counts[result] += 1
        self.assertGreater(min(counts.values()), 500)


class Plain(unittest.TestCase):
    def check(self, formula, found):
        self.assertEqual(plain(formula), found, formula)

    def test_nothing_to_be_done(self):
        for formula in (A, B, C, D, TRUE, FALSE, ("and", (A, B)), ("or", (A, ("and", (TRUE, C)), FALSE))):
            self.check(formula, formula)

    def test_not_of_a_row(self):
        self.check(("not", A), NOT_A)
        self.check(("not", B), NOT_B)
        self.check(("not", D), NOT_D)
        self.check(("not", row_of("2 x - 3 y <= 1/2")), row_of("2 x - 3 y > 1/2"))

    def test_not_of_a_row_with_two_opposites(self):
        self.check(("not", C), NOT_C)
        self.check(("not", row_of("y = -1/2")), ("or", (row_of("y < -1/2"), row_of("y > -1/2"))))

    def test_not_of_a_row_without_parts(self):
        self.check(("not", row_of("0 <= 1")), row_of("0 < -1"))
        self.check(("not", row_of("0 < 0")), row_of("0 <= 0"))
        self.check(("not", row_of("0 = 1")), ("or", (row_of("0 < 1"), row_of("0 < -1"))))
        self.check(("not", row_of("0 = 0")), ("or", (row_of("0 < 0"), row_of("0 < 0"))))

    def test_not_of_not(self):
        self.check(("not", ("not", A)), A)
        self.check(("not", ("not", ("not", A))), NOT_A)
        self.check(("not", ("not", ("not", ("not", C)))), C)
        self.check(("not", ("not", ("and", (A, ("not", B))))), ("and", (A, NOT_B)))
        self.check(("not", ("not", TRUE)), TRUE)

    def test_not_of_true_and_false(self):
        self.check(("not", TRUE), FALSE)
        self.check(("not", FALSE), TRUE)

    def test_not_of_and_and_of_or(self):
        self.check(("not", ("and", (A, B))), ("or", (NOT_A, NOT_B)))
        self.check(("not", ("or", (A, B))), ("and", (NOT_A, NOT_B)))
        self.check(("not", ("and", (D, B, A, TRUE))), ("or", (NOT_D, NOT_B, NOT_A, FALSE)))
        self.check(("not", ("or", (D, B, FALSE, A))), ("and", (NOT_D, NOT_B, TRUE, NOT_A)))
        self.check(("not", ("or", (A, ("not", B)))), ("and", (NOT_A, B)))

    def test_or_in_or_stays(self):
        self.check(("or", (A, ("not", C))), ("or", (A, NOT_C)))
        self.check(("not", ("and", (C, A))), ("or", (NOT_C, NOT_A)))
        self.check(("not", ("and", (("and", (A, B)), D))), ("or", (("or", (NOT_A, NOT_B)), NOT_D)))
        self.check(("not", ("or", (C, A))), ("and", (NOT_C, NOT_A)))

    def test_deep_inside(self):
        self.check(("and", (A, ("or", (B, ("and", (D, ("not", A))))))),
                   ("and", (A, ("or", (B, ("and", (D, NOT_A)))))))
        self.check(("or", (A, ("not", ("or", (B, ("not", ("or", (D, A)))))))),
                   ("or", (A, ("and", (NOT_B, ("or", (D, A)))))))
        self.check(("not", ("and", (A, ("or", (B, ("and", (D, ("not", C)))))))),
                   ("or", (NOT_A, ("and", (NOT_B, ("or", (NOT_D, C)))))))

    def test_the_example(self):
        f = read_formula("not ([x <= 1] and not [y = 2])")
        self.assertEqual((format_formula(plain(f)), format_formula(plain(("not", f)))),
                         ("[-x < -1] or [y = 2]", "[x <= 1] and ([y < 2] or [-y < -2])"))

    def test_many(self):
        for k, formula in enumerate(MANY):
            for some in (formula, ("not", formula)):
                found = plain(some)
                self.check(some, pushed_in(some))
                self.assertTrue(is_plain(found) and is_right_tuple(found))
                self.assertEqual(plain(found), found)
                for point in grid()[k % 5::5]:
                    self.assertIs(is_true(found, point), true_of(some, point), (some, point))


class UnknownsOf(unittest.TestCase):
    def check(self, text, names):
        self.assertEqual(unknowns_of(read_formula(text)), names, text)

    def test_ascending(self):
        self.check("[z + y <= 1]", ["y", "z"])
        self.check("[z <= 1] and [y <= 1]", ["y", "z"])
        self.check("[b <= 1] or not ([a2 <= 1] and ([a10 < 1] or not [c = 1]))", ["a10", "a2", "b", "c"])

    def test_each_once(self):
        self.check("[x + y <= 1] and [x < 1] or not [y = x]", ["x", "y"])

    def test_none(self):
        self.check("true", [])
        self.check("false or [0 < 1] and not [x <= x]", [])

    def test_a_new_list(self):
        formula = read_formula("[y <= x]")
        unknowns_of(formula).clear()
        self.assertEqual(unknowns_of(formula), ["x", "y"])
        self.assertIs(type(unknowns_of(TRUE)), list)

    def test_many(self):
        for formula in MANY:
            names = unknowns_of(formula)
            self.assertEqual(names, sorted(set(names)))
            self.assertEqual(names, unknowns_of(("not", formula)))
            self.assertEqual(names, unknowns_of(plain(formula)))
            self.assertEqual([name for name in "xyz" if f"'{name}'" in repr(formula)], names)


class Format(unittest.TestCase):
    def check(self, formula, text):
        self.assertEqual(format_formula(formula), text)

    def test_rows(self):
        self.check(("row", rows_of("2 x - y + 3 z <= -1/2")[0]), "[2 x - y + 3 z <= -1/2]")
        self.check(row_of("x > 1"), "[-x < -1]")
        self.check(row_of("0 = 1"), "[0 = 1]")

    def test_true_and_false(self):
        self.check(TRUE, "true")
        self.check(FALSE, "false")

    def test_not(self):
        self.check(("not", A), "not [x <= 1]")
        self.check(("not", TRUE), "not true")
        self.check(("not", ("not", ("not", FALSE))), "not not not false")

    def test_and_and_or(self):
        self.check(("and", (A, B)), "[x <= 1] and [y < 2]")
        self.check(("or", (A, B)), "[x <= 1] or [y < 2]")
        self.check(("and", (A, TRUE, B, FALSE)), "[x <= 1] and true and [y < 2] and false")
        self.check(("or", (FALSE, A, TRUE)), "false or [x <= 1] or true")

    def test_brackets(self):
        self.check(("or", (("or", (A, B)), TRUE)), "([x <= 1] or [y < 2]) or true")
        self.check(("or", (TRUE, ("or", (A, B)))), "true or ([x <= 1] or [y < 2])")
        self.check(("and", (("and", (A, B)), TRUE)), "([x <= 1] and [y < 2]) and true")
        self.check(("and", (TRUE, ("and", (A, B)))), "true and ([x <= 1] and [y < 2])")
        self.check(("and", (TRUE, ("or", (A, B)))), "true and ([x <= 1] or [y < 2])")
        self.check(("and", (("or", (A, B)), TRUE)), "([x <= 1] or [y < 2]) and true")
        self.check(("not", ("and", (A, B))), "not ([x <= 1] and [y < 2])")
        self.check(("not", ("or", (A, B))), "not ([x <= 1] or [y < 2])")

    def test_no_brackets(self):
        self.check(("or", (("and", (A, B)), TRUE)), "[x <= 1] and [y < 2] or true")
        self.check(("or", (TRUE, ("and", (A, B)))), "true or [x <= 1] and [y < 2]")
        self.check(("or", (("and", (A, B)), ("and", (TRUE, FALSE)))), "[x <= 1] and [y < 2] or true and false")
        self.check(("and", (("not", A), ("not", TRUE))), "not [x <= 1] and not true")
        self.check(("or", (("not", A), ("not", TRUE))), "not [x <= 1] or not true")
        self.check(("not", ("not", A)), "not not [x <= 1]")

    def test_nested(self):
        self.check(("not", ("or", (("and", (("not", ("and", (A, TRUE))), ("or", (B, ("or", (TRUE, FALSE)))))), FALSE))),
                   "not (not ([x <= 1] and true) and ([y < 2] or (true or false)) or false)")
        self.check(("and", (("not", ("not", ("or", (TRUE, FALSE)))), ("and", (TRUE, ("and", (FALSE, TRUE)))))),
                   "not not (true or false) and (true and (false and true))")

    def test_the_texts_of_read_formulas(self):
        for text in ("[x <= 1] and [y < 2] or not true", "not (true or false)", "true and (true and false)"):
            self.check(formulas_of(text)[0], text)


if __name__ == "__main__":
    unittest.main()
