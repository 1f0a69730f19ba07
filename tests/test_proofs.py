"""linpapers/proofs.py: points and proofs as decide and follows find them."""

import unittest
from copy import deepcopy
from fractions import Fraction

from formulahelpers import (
    FALSE, TRUE, TooMany, formulas_of, found_by, is_right, pushed_in, row_of, rows_step, some_formulas, some_lists,
    true_of)
from helpers import point_of
from linpapers.errors import FormulaError
from linpapers.formulas import read_formula
from linpapers.proofs import decide, flaw_of_proof, follows

HALF = Fraction(1, 2)


class Checks(unittest.TestCase):
    def check_point(self, text, **numbers):
        self.assertEqual(decide(formulas_of(text)), ("point", point_of(**numbers)), text)

    def check_proof(self, text, proof):
        formulas = formulas_of(text)
        self.assertEqual(decide(formulas), ("proof", proof), text)
        self.assertIsNone(flaw_of_proof(formulas, proof))
        self.assertTrue(is_right([pushed_in(formula) for formula in formulas], proof))

    def check_found(self, formulas):
        """Check what decide finds; return the word."""
        word, found = decide(formulas)
        if word == "point":
            self.assertTrue(all(true_of(formula, found) for formula in formulas), (formulas, found))
            names = [name for name, _ in found]
            self.assertEqual(names, sorted(set(names)))
        else:
            self.assertEqual(word, "proof")
            self.assertIsNone(flaw_of_proof(formulas, found))
            self.assertTrue(is_right([pushed_in(formula) for formula in formulas], found))
        return word


class Points(Checks):
    def test_an_empty_list(self):
        self.assertEqual(decide([]), ("point", ()))

    def test_nothing_to_be_taken(self):
        self.check_point("true")
        self.check_point("true; true")
        self.check_point("[x > 3]", x=4)
        self.check_point("[x > 1/3]; true; [x < 1/2]; [y = 2 x]", x=Fraction(3, 8), y=Fraction(3, 4))
        self.check_point("[x + y >= 3]; [x < 1]; [y <= 5/2]", x=HALF, y=Fraction(5, 2))
        self.check_point("not [x < 3]; not not [y > x]", x=3, y=4)
        self.check_point("[0 <= 1]; [x >= 2]", x=2)

    def test_behind_ands(self):
        self.check_point("[x > 1] and [y > x]", x=Fraction(3, 2), y=2)
        self.check_point("[x > 1] and ([y > x] and [z < y])", x=Fraction(3, 2), y=2, z=0)
        self.check_point("not ([x <= 1] or [y <= 1])", x=2, y=2)
        self.check_point("true and true")

    def test_the_first_part_of_an_or_that_leads_to_a_point(self):
        self.check_point("[x >= 3] or [x <= -3]", x=3)
        self.check_point("[x <= -3] or [x >= 3]", x=-3)
        self.check_point("[x >= 3] or [x <= -3]; [x < 0]", x=-3)
        self.check_point("false or [x >= 3] or [x <= -3]", x=3)
        self.check_point("[y >= 3] or [x <= -3] or true; [y < 3] and [x > -3]", x=0, y=0)
        self.check_point("not [x = 0]", x=-1)
        self.check_point("not [x = 0]; [x >= 0]", x=1)

    def test_without_the_unknowns_of_what_was_not_taken(self):
        self.check_point("true or [x = 1]")
        self.check_point("[x = 1] or [y = 1]", x=1)
        self.check_point("[x = 1] and [x = 2] or [y = 1]", y=1)

    def test_several_ors(self):
        self.check_point("[x >= 3] or [x <= -3]; [y > x] or [y < -5]; [y < 0]", x=3, y=-6)
        self.check_point("[x = 1] or [x = 2]; [x = 2] or [x = 3]; [x = 3] or [x = 2]", x=2)
        self.check_point("([x = 1] or [x = 2]) and ([x = 2] or [x = 3])", x=2)
        self.check_point("[x = 1] or ([x = 2] or [x = 3]); [x > 2]", x=3)

    def test_the_first_and_goes_ahead_of_the_first_or(self):
        # With the `or` first, and without the `and`, the point would be another one.
        self.check_point("[x = 1] or [x = 2]; [x > 1] and true", x=2)
        # The ors in the order of their numbers: the one of the list, then the one in the `and`.
        self.check_point("true and ([x >= 1] or [x <= -1]); [y = x] or [y = 5]; [x + y = 4]", x=2, y=2)
        self.check_point("[y >= 5] or [y <= -5]; [x = 1] or true; [x + y = 0]", x=-5, y=5)


class Proofs(Checks):
    def test_the_example(self):
        f = read_formula("not ([x <= 1] and not [y = 2])")
        found = decide([f, read_formula("[x < 1] and [y > 2]")])
        self.assertEqual(found, ("proof", ("and", 1, ("or", 0, (
            ("rows", ((2, (1, 1)), (4, (1, 1)))), ("rows", ((3, (1, 1)), (4, (1, 1)))))))))

    def test_the_first_false(self):
        self.check_proof("false", ("false", 0))
        self.check_proof("true; false; false", ("false", 1))
        self.check_proof("[x <= 1]; [y <= 1]; not true", ("false", 2))

    def test_false_goes_ahead_of_all_others(self):
        self.check_proof("[x < 0]; [x > 0]; false", ("false", 2))
        self.check_proof("[0 < 0]; true and true; false", ("false", 2))
        self.check_proof("true and false; [x = 1] or [x = 2]; false", ("false", 2))

    def test_rows_with_the_numbers_of_the_formulas(self):
        self.check_proof("[x < 0]; [x > 0]", rows_step((0, 1), (1, 1)))
        self.check_proof("true; [x < 0]; true; true; [x > 0]", rows_step((1, 1), (4, 1)))
        self.check_proof("true; [y <= 1]; true or true; [x + y >= 3]; true and true; [x < 1]; [2 y <= 4]",
                         rows_step((1, 1), (3, 1), (5, 1)))
        self.check_proof("true; [2 x + y <= 1]; true; [3 x + y >= 5]; [y >= 0]", rows_step((1, 3), (3, 2), (4, 1)))
        self.check_proof("true; [x = 1]; true; [x = 2]", rows_step((1, -1), (3, 1)))
        self.check_proof("[y < 3]; true; [0 < 0]", rows_step((2, 1)))
        self.check_proof("not [x >= 0]; not not [x >= 0]", rows_step((0, 1), (1, 1)))

    def test_rows_go_ahead_of_ands_and_ors(self):
        self.check_proof("false and true; [x < 0]; [x > 0]", rows_step((1, 1), (2, 1)))
        self.check_proof("false or false; [x < 0]; [x > 0]", rows_step((1, 1), (2, 1)))

    def test_ands_ahead_of_ors(self):
        self.check_proof("false or false; true and false", ("and", 1, ("false", 3)))
        self.check_proof("[x < 1] or [x < 2]; [y = 1]; [x > 3] and [y = 1]",
                         ("and", 2, ("or", 0, (rows_step((3, 1), (5, 1)), rows_step((3, 1), (5, 1))))))

    def test_the_first_and_not_yet_taken(self):
        self.check_proof("true and true; true and false", ("and", 0, ("and", 1, ("false", 5))))
        self.check_proof("true; [x < 0] and true; [x > 0] and true; true and true",
                         ("and", 1, ("and", 2, rows_step((4, 1), (6, 1)))))
        # The parts of the first one stand behind the others.
        self.check_proof("true and ([x < 0] and [y > 1]); true and [x > 0]",
                         ("and", 0, ("and", 1, ("and", 3, rows_step((5, 1), (6, 1))))))
        self.check_proof("(true and false) and true", ("and", 0, ("and", 1, ("false", 4))))

    def test_the_first_or_not_yet_taken(self):
        self.check_proof("[x < 1] or [x < 2]; [x > 3] or [x > 4]", ("or", 0, (
            ("or", 1, (rows_step((2, 1), (3, 1)), rows_step((2, 1), (3, 1)))),
            ("or", 1, (rows_step((2, 1), (3, 1)), rows_step((2, 1), (3, 1)))))))
        self.check_proof("true; true or true; false or false", ("or", 1, (
            ("or", 2, (("false", 4), ("false", 4))), ("or", 2, (("false", 4), ("false", 4))))))

    def test_the_parts_in_order(self):
        self.check_proof("false or [x < 0] or [x < 1]; [x > 5]",
                         ("or", 0, (("false", 2), rows_step((1, 1), (2, 1)), rows_step((1, 1), (2, 1)))))
        self.check_proof("[x = 1] or false or [0 < 0]; not [x = 1]; [x <= 1]; [x >= 1]", ("or", 0, (
            ("or", 1, (rows_step((4, -1), (5, 1)), rows_step((4, 1), (5, 1)))), ("false", 4), rows_step((4, 1)))))

    def test_parts_are_taken_too(self):
        self.check_proof("([x < 0] and [y = 1]) or false; [x > 0]",
                         ("or", 0, (("and", 2, rows_step((1, 1), (3, 1))), ("false", 2))))
        self.check_proof("(false or (false or false)) or false", ("or", 0, (
            ("or", 1, (("false", 2), ("or", 2, (("false", 3), ("false", 3))))), ("false", 1))))
        # An `and` among the parts goes ahead of an `or` of the list.
        self.check_proof("(true and true) or false; false or false", ("or", 0, (
            ("and", 2, ("or", 1, (("false", 5), ("false", 5)))), ("false", 2))))

    def test_what_was_taken_is_not_taken_in_the_other_parts(self):
        self.check_proof("([x = 1] or [x = 2]) and true; [x < 0]", ("and", 0, ("or", 2, (
            rows_step((1, 1), (4, -1)), rows_step((1, 1), (4, -1))))))

    def test_plain_forms(self):
        self.check_proof("not ([x < 0] or [y < 0]); [x < 0]", ("and", 0, rows_step((1, 1), (2, 1))))
        self.check_proof("not ([x < 0] and [x < 1]); [x < 0]",
                         ("or", 0, (rows_step((1, 1), (2, 1)), rows_step((1, 1), (2, 1)))))
        self.check_proof("not [x = 0]; [x = 0]", ("or", 0, (rows_step((1, -1), (2, 1)), rows_step((1, 1), (2, 1)))))


class Decide(Checks):
    def test_many(self):
        words = {}
        lists = (some_lists(121, 250) + some_lists(122, 100, longest=5, depth=2, signs=("<=", "<"))
                 + some_lists(123, 100, longest=3, names="xyz", depth=4, most=2))
        for formulas in lists:
            word = self.check_against(formulas)
            words[word] = words.get(word, 0) + 1
        self.assertTrue(words["point"] > 100 and words["proof"] > 100, words)

    def check_against(self, formulas):
        """Check what decide does against a second telling; return the word, or what was too many."""
        before = deepcopy(formulas)
        try:
            expected, _ = found_by(formulas)
        except TooMany as fault:
            with self.assertRaises(FormulaError) as caught:
                decide(formulas)
            self.assertEqual((caught.exception.place, caught.exception.what), (0, str(fault)))
            return str(fault)
        self.assertEqual(decide(formulas), expected, formulas)
        self.assertEqual(formulas, before)
        return self.check_found(formulas)

    def test_where_no_point_is_found_there_is_none(self):
        # Points of the first list would be points of the second one.
        for formulas in some_lists(124, 60, longest=3, depth=2):
            if decide(formulas)[0] == "proof":
                for k in range(-4, 5):
                    fixed = formulas + [row_of(f"2 x = {k}") if k >= 0 else row_of(f"2 x = -{-k}")]
                    self.assertEqual(decide(fixed)[0], "proof")

    def test_deep_proofs(self):
        # 12 formulas with 19 ands each: the steps stand one within the other.
        part = ("and", (TRUE, TRUE))
        formula = ("and", (("and", (part, part)), ("and", (part, part))))
        formula = ("and", (formula, ("and", (formula, ("and", (part, part))))))
        formulas = [formula] * 12
        self.assertEqual(decide(formulas), ("point", ()))
        word, proof = decide(formulas + [row_of("x < 0"), ("and", (row_of("x > 0"), TRUE))])
        self.assertEqual(word, "proof")
        self.assertIsNone(flaw_of_proof(formulas + [row_of("x < 0"), ("and", (row_of("x > 0"), TRUE))], proof))


class Follows(Checks):
    def check(self, text, formula_text, result):
        """Check whether a formula follows, and that follows returns what decide does."""
        formulas, formula = formulas_of(text), read_formula(formula_text)
        before = deepcopy(formulas)
        word, found = follows(formulas, formula)
        self.assertEqual(formulas, before)
        self.assertEqual((word, found), decide(formulas + [("not", formula)]))
        self.assertIs(word == "proof", result, (text, formula_text))
        if word == "point":
            self.assertTrue(all(true_of(one, found) for one in formulas))
            self.assertFalse(true_of(formula, found))

    def test_follows(self):
        self.check("[x <= 1]", "[x <= 2]", True)
        self.check("[x <= 1]; [y <= 1]", "[x + y <= 2]", True)
        self.check("[x <= 1] or [y <= 1]; [y > 1]", "[x <= 1]", True)
        self.check("[x = 1] or [x = 2]", "[x >= 1] and [x <= 2]", True)
        self.check("[x = 1]", "not [x = 2] or [y = 3]", True)
        self.check("", "[x <= 1] or [x > 0]", True)
        self.check("", "true", True)
        self.check("false", "[x <= 1]", True)
        self.check("[x < 0]; [x > 0]", "false", True)

    def test_follows_not(self):
        self.check("[x <= 2]", "[x <= 1]", False)
        self.check("[x <= 1] or [y <= 1]", "[x <= 1]", False)
        self.check("[x >= 1] and [x <= 2]", "[x = 1] or [x = 2]", False)
        self.check("", "[x = 1]", False)
        self.check("", "false", False)
        self.check("[x <= 1]", "false", False)
        self.check("[x <= 1]", "[y <= 1]", False)

    def test_what_is_returned(self):
        self.assertEqual(follows(formulas_of("[x <= 1]"), read_formula("[x <= 2]")),
                         ("proof", rows_step((0, 1), (1, 1))))
        self.assertEqual(follows(formulas_of("[x <= 1]; [y = 2]"), read_formula("[x + y <= 2] and [x < 3]")),
                         ("point", point_of(x=1, y=2)))
        self.assertEqual(follows(formulas_of("[x <= 1]; [x >= 1]"), read_formula("[x = 1]")),
                         ("proof", ("or", 2, (rows_step((1, 1), (3, 1)), rows_step((0, 1), (3, 1))))))
        self.assertEqual(follows([], TRUE), ("proof", ("false", 0)))
        self.assertEqual(follows([], FALSE), ("point", ()))

    def test_a_formula_of_the_list(self):
        for formulas in some_lists(125, 60, longest=3, depth=2):
            for formula in formulas:
                self.assertEqual(follows(formulas, formula)[0], "proof", formulas)

    def test_many(self):
        found = {True: 0, False: 0}
        for k, formulas in enumerate(some_lists(126, 150, longest=3, depth=2)):
            formula = some_formulas(1000 + k, 1, depth=1)[0]
            word, paper = follows(formulas, formula)
            self.assertEqual((word, paper), decide(formulas + [("not", formula)]))
            found[word == "proof"] += 1
        self.assertGreater(min(found.values()), 30)

    def test_the_list_stays(self):
        formulas = formulas_of("[x <= 1]; true")
        for _ in range(2):
            self.assertEqual(follows(formulas, read_formula("[x <= 2]"))[0], "proof")
            self.assertEqual(formulas, formulas_of("[x <= 1]; true"))


if __name__ == "__main__":
    unittest.main()
