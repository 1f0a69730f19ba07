"""linpapers/formulas.py: how the text of a formula is read, without faults."""

import unittest
from fractions import Fraction

from formulahelpers import FALSE, TRUE, row_of, some_formulas, true_of
from helpers import point_of
from linpapers.formulas import format_formula, plain, read_formula

HALF = Fraction(1, 2)
A, B, C = row_of("x <= 1"), row_of("y < 2"), row_of("x + y = 3")


class Read(unittest.TestCase):
    def check(self, text, formula):
        self.assertEqual(read_formula(text), formula, text)

    def test_the_example(self):
        f = read_formula("not ([x <= 1] and not [y = 2])")
        self.assertEqual(f, ("not", ("and", (A, ("not", row_of("y = 2"))))))
        self.assertEqual(format_formula(plain(f)), "[-x < -1] or [y = 2]")

    def test_true_and_false(self):
        self.check("true", TRUE)
        self.check("false", FALSE)

    def test_comparisons(self):
        self.check("[x <= 1]", A)
        self.check("[3 > y + 1]", B)
        self.check("[1/2 x + 3 > y - 2/3 x]", row_of("-7 x + 6 y < 18"))
        self.check("[2 >= 4]", ("row", ((), "<=", (-1, 1))))
        self.check("[ x<=1 ]", A)
        self.check("[not = 1]", row_of("not = 1"))
        self.check("[true < false]", row_of("true < false"))

    def test_the_words(self):
        self.check("not true", ("not", TRUE))
        self.check("[x <= 1] and [y < 2]", ("and", (A, B)))
        self.check("[x <= 1] or [y < 2]", ("or", (A, B)))

    def test_from_weak_to_strong(self):
        self.check("true or [x <= 1] and false", ("or", (TRUE, ("and", (A, FALSE)))))
        self.check("true and [x <= 1] or false", ("or", (("and", (TRUE, A)), FALSE)))
        self.check("true and false or [x <= 1] and [y < 2]", ("or", (("and", (TRUE, FALSE)), ("and", (A, B)))))
        self.check("not true and false", ("and", (("not", TRUE), FALSE)))
        self.check("not true or false", ("or", (("not", TRUE), FALSE)))
        self.check("true and not false", ("and", (TRUE, ("not", FALSE))))
        self.check("true or not false and true", ("or", (TRUE, ("and", (("not", FALSE), TRUE)))))

    def test_nots_of_nots(self):
        self.check("not not true", ("not", ("not", TRUE)))
        self.check("not not not [x <= 1]", ("not", ("not", ("not", A))))
        self.check("not not true or not not not false",
                   ("or", (("not", ("not", TRUE)), ("not", ("not", ("not", FALSE))))))
        self.check("not (not (not true))", ("not", ("not", ("not", TRUE))))
        self.check("not not (true or not false)", ("not", ("not", ("or", (TRUE, ("not", FALSE))))))

    def test_more_than_two_parts(self):
        self.check("true and [x <= 1] and false", ("and", (TRUE, A, FALSE)))
        self.check("true or [x <= 1] or false or [y < 2]", ("or", (TRUE, A, FALSE, B)))
        self.check("true or true and false and [x <= 1] or false or not [y < 2]",
                   ("or", (TRUE, ("and", (TRUE, FALSE, A)), FALSE, ("not", B))))
        self.check("(true) and (false) and (true)", ("and", (TRUE, FALSE, TRUE)))

    def test_brackets_round_some_of_them(self):
        self.check("(true and false) and [x <= 1]", ("and", (("and", (TRUE, FALSE)), A)))
        self.check("true and (false and [x <= 1])", ("and", (TRUE, ("and", (FALSE, A)))))
        self.check("(true or false) or [x <= 1] or true", ("or", (("or", (TRUE, FALSE)), A, TRUE)))
        self.check("true or ([x <= 1] or false) or true", ("or", (TRUE, ("or", (A, FALSE)), TRUE)))
        self.check("((true or false) or true) or false",
                   ("or", (("or", (("or", (TRUE, FALSE)), TRUE)), FALSE)))

    def test_brackets(self):
        self.check("(true)", TRUE)
        self.check("([x <= 1])", A)
        self.check("(true or false)", ("or", (TRUE, FALSE)))
        self.check("(true or false) and true", ("and", (("or", (TRUE, FALSE)), TRUE)))
        self.check("true and (false or true)", ("and", (TRUE, ("or", (FALSE, TRUE)))))
        self.check("(true and false) or true", ("or", (("and", (TRUE, FALSE)), TRUE)))
        self.check("not (true and false)", ("not", ("and", (TRUE, FALSE))))
        self.check("(not true) and false", ("and", (("not", TRUE), FALSE)))

    def test_brackets_several_times(self):
        self.check("((true))", TRUE)
        self.check("(((true or ((false)))))", ("or", (TRUE, FALSE)))
        self.check("not ((([x <= 1] and [y < 2])))", ("not", ("and", (A, B))))
        self.check("((true and false)) and true", ("and", (("and", (TRUE, FALSE)), TRUE)))
        self.check("((not ((not (true)))))", ("not", ("not", TRUE)))
        self.check("(" * 148 + "true" + ")" * 148, TRUE)
        self.check("(true and (" * 5 + "false" + "))" * 5, self.nested(5))

    def nested(self, many):
        formula = FALSE
        for _ in range(many):
            formula = ("and", (TRUE, formula))
        return formula

    def test_brackets_are_no_depth(self):
        self.check("not (" * 11 + "(((true)))" + ")" * 11, self.nots(11))
        self.check("((((((((((((((true or false))))))))))))))", ("or", (TRUE, FALSE)))

    def nots(self, many):
        formula = TRUE
        for _ in range(many):
            formula = ("not", formula)
        return formula

    def test_spaces(self):
        self.check("  true  ", TRUE)
        self.check(" (  true   or( false ) )  ", ("or", (TRUE, FALSE)))
        self.check("not   not true", ("not", ("not", TRUE)))
        self.check("[  x<=1]   and [ y  <  2 ]", ("and", (A, B)))

    def test_without_spaces(self):
        self.check("not[x<=1]and(true)or(not(false))", ("or", (("and", (("not", A), TRUE)), ("not", FALSE))))
        self.check("[x<=1]or[y<2]and[x+y=3]", ("or", (A, ("and", (B, C)))))
        self.check("(true)and(false)", ("and", (TRUE, FALSE)))
        self.check("not(not(true))", ("not", ("not", TRUE)))

    def test_the_same_truth(self):
        formula = read_formula("not [x <= 1] and [y < 2] or [x + y = 3] and not (true and [x <= 1])")
        for x, y, result in ((2, 1, True), (1, 1, False), (1, 2, False), (2, 5, False), (HALF, 5, False),
                             (4, -1, True)):
            self.assertIs(true_of(formula, point_of(x=x, y=y)), result, (x, y))


class There(unittest.TestCase):
    """Reading the text of a formula gives this formula."""

    def check(self, formula):
        text = format_formula(formula)
        self.assertLessEqual(len(text), 300)
        self.assertEqual(read_formula(text), formula, text)
        self.assertEqual(format_formula(read_formula(text)), text)

    def test_small(self):
        for formula in (TRUE, FALSE, A, ("not", ("not", B)), ("and", (A, B)), ("or", (("or", (A, B)), TRUE)),
                        ("not", ("and", (A, ("or", (B, FALSE))))), ("and", (("and", (A, B)), ("and", (TRUE, C))))):
            self.check(formula)

    def test_rows_with_fractions_and_six_digits(self):
        self.check(row_of("999999 x - 123456 y <= 654321/999998"))
        self.check(("not", row_of("abcdefgh - z2345678 = -1/999999")))

    def test_the_largest(self):
        self.check(("or", (A,) * 8))
        self.check(("and", (("or", (TRUE, FALSE) * 4),) * 4))
        formula = TRUE
        for k in range(11):
            formula = ("not", formula) if k % 3 else (("and", "or")[k % 2], (FALSE, formula))
        self.check(formula)

    def test_many(self):
        count = 0
        for formula in some_formulas(111, 300) + some_formulas(112, 150, depth=5, names="xyz", most=2):
            if len(format_formula(formula)) <= 300 and format_formula(formula).count("[") <= 15:
                self.check(formula)
                count += 1
        self.assertGreater(count, 300)


if __name__ == "__main__":
    unittest.main()
