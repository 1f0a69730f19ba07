"""linpapers/proofs.py: the flaws of proofs, and the limits of the search for a point."""

import unittest
from copy import deepcopy

from formulahelpers import (
    FALSE, TRUE, TooMany, formulas_of, found_by, is_right, pushed_in, row_of, rows_step, some_lists)
from linpapers.errors import FormulaError, LinpapersError
from linpapers.proofs import decide, flaw_of_proof, follows

X_BELOW, X_ABOVE = "[x < 0]", "[x > 0]"
RIGHT = rows_step((0, 1), (1, 1))


class Flaws(unittest.TestCase):
    def check(self, text, proof, path, what):
        formulas = formulas_of(text)
        self.assertEqual(flaw_of_proof(formulas, proof), (path, what), (text, proof))
        self.assertFalse(is_right([pushed_in(formula) for formula in formulas], proof))

    def check_none(self, text, proof):
        formulas = formulas_of(text)
        self.assertIsNone(flaw_of_proof(formulas, proof), (text, proof))
        self.assertTrue(is_right([pushed_in(formula) for formula in formulas], proof))

    def test_right_rows(self):
        self.check_none("[x < 0]; [x > 0]", RIGHT)
        self.check_none("true; [x < 0]; false; [x > 0]", rows_step((1, 1), (3, 1)))
        self.check_none("[x < 0]; [x > 0]", rows_step((0, 3), (1, 3)))
        self.check_none("[x = 1]; [x = 2]", rows_step((0, 1), (1, -1)))
        self.check_none("[x = 1]; [x = 2]", rows_step((0, -1), (1, 1)))
        self.check_none("[0 < 0]; true", rows_step((0, 7)))
        self.check_none("not [x >= 0]; not [x <= 0]", RIGHT)

    def test_right_false(self):
        self.check_none("false", ("false", 0))
        self.check_none("true; not true", ("false", 1))
        self.check_none("false; false", ("false", 1))

    def test_right_and(self):
        self.check_none("true and false", ("and", 0, ("false", 2)))
        self.check_none("[x < 0] and [x > 0]", ("and", 0, rows_step((1, 1), (2, 1))))
        self.check_none("not ([x >= 0] or [x <= 0])", ("and", 0, rows_step((1, 1), (2, 1))))
        self.check_none("true and false; [x < 0]", ("and", 0, ("and", 0, ("false", 3))))
        self.check_none("true and ([x < 0] and [x > 0])", ("and", 0, ("and", 2, rows_step((3, 1), (4, 1)))))

    def test_right_or(self):
        self.check_none("false or [0 < 0]", ("or", 0, (("false", 1), rows_step((1, 1)))))
        self.check_none("[x < 0] or [x < -1] or false; [x > 0]",
                        ("or", 0, (rows_step((1, 1), (2, 1)), rows_step((1, 1), (2, 1)), ("false", 2))))
        self.check_none("not [x = 0]; [x = 0]", ("or", 0, (rows_step((1, -1), (2, 1)), rows_step((1, 1), (2, 1)))))
        self.check_none("false or (false or false)",
                        ("or", 0, (("false", 1), ("or", 1, (("false", 2), ("false", 2))))))

    def test_right_though_not_as_decide_tells(self):
        self.check_none("[x < 0]; [x > 0]; false", RIGHT)
        self.check_none("[x < 0]; [x > 0]; true and true; false or false",
                        ("or", 3, (("and", 2, RIGHT), ("false", 4))))

    def test_no_such_formula(self):
        for number in (-1, -2, 2, 3, 99, -10 ** 20):
            self.check("[x < 0]; [x > 0]", ("false", number), (), "no such formula")
            self.check("false; true and false", ("and", number, ("false", 3)), (), "no such formula")
            self.check("false; true or false", ("or", number, (("false", 0), ("false", 0))), (), "no such formula")
            self.check("[0 < 0]; [0 < 0]", rows_step((number, 1)), (), "no such formula")
            self.check("[0 < 0]; [0 < 0]", rows_step(*sorted([(0, 1), (number, 1)])), (), "no such formula")
        self.check("", ("false", 0), (), "no such formula")
        self.check("", rows_step((0, 1)), (), "no such formula")

    def test_no_such_formula_behind_what_is_assumed(self):
        self.check("true and false", ("and", 0, ("false", 3)), (0,), "no such formula")
        self.check("false or false", ("or", 0, (("false", 1), ("false", 2))), (1,), "no such formula")
        self.check("false or [0 < 0]; true", ("or", 0, (("false", 2), rows_step((3, 1)))), (1,), "no such formula")
        # The part of the `or` is assumed in its own proof alone.
        self.check("[x < 0] or [x < 1]; [x > 3]", ("or", 0, (
            rows_step((1, 1), (2, 1)), rows_step((1, 1), (3, 1)))), (1,), "no such formula")

    def test_not_a_row(self):
        for text in ("true", "false", "true and true", "true or true", "not true"):
            self.check(text, rows_step((0, 1)), (), "not a row")
            self.check(f"[0 < 0]; {text}", rows_step((0, 1), (1, 1)), (), "not a row")
        self.check("not [x = 0]; [x = 0]", rows_step((0, 1), (1, 1)), (), "not a row")

    def test_not_false(self):
        for text in ("true", "[0 < 0]", "false and false", "false or false", "not false"):
            self.check(f"false; {text}", ("false", 1), (), "not false")

    def test_not_an_and(self):
        for text in ("true", "false", "[0 < 0]", "false or false", "not (false and false)"):
            self.check(f"false; {text}", ("and", 1, ("false", 0)), (), "not an and")

    def test_not_an_or(self):
        for text in ("true", "false", "[0 < 0]", "false and false", "not (false or false)"):
            self.check(f"false; {text}", ("or", 1, (("false", 0), ("false", 0))), (), "not an or")

    def test_the_kinds_of_the_plain_forms(self):
        self.check_none("not (false or true)", ("and", 0, ("false", 2)))
        self.check_none("not (true and true)", ("or", 0, (("false", 1), ("false", 1))))
        self.check_none("not not false", ("false", 0))

    def test_other_number_of_proofs(self):
        self.check("false or false", ("or", 0, ()), (), "other number of proofs")
        self.check("false or false", ("or", 0, (("false", 1),)), (), "other number of proofs")
        self.check("false or false", ("or", 0, (("false", 1),) * 3), (), "other number of proofs")
        self.check("false or false or false", ("or", 0, (("false", 1),) * 2), (), "other number of proofs")

    def test_no_paper(self):
        self.check("[x < 0]; [x > 0]", rows_step(), (), "no paper")
        self.check("", rows_step(), (), "no paper")
        self.check("[x < 0]; [x > 0]", rows_step((0, 1)), (), "no paper")
        self.check("[x < 0]; [x > 0]", rows_step((0, 1), (1, 2)), (), "no paper")
        self.check("[x <= 0]; [x >= 0]", RIGHT, (), "no paper")
        self.check("[0 <= 0]; [0 = 0]", RIGHT, (), "no paper")
        self.check("true; [x < 0]; [x > 0]; [x < 1]", rows_step((2, 1), (3, 1)), (), "no paper")

    def test_papers_in_the_wrong_order(self):
        self.check("[x < 0]; [x > 0]", rows_step((1, 1), (0, 1)), (), "no paper")
        self.check("true; [x < 0]; true; [x > 0]", rows_step((3, 1), (1, 1)), (), "no paper")

    def test_papers_with_a_number_twice(self):
        self.check("[0 < 0]", rows_step((0, 1), (0, 1)), (), "no paper")
        self.check("[x < 0]; [x > 0]", rows_step((0, 1), (1, 1), (1, 1)), (), "no paper")
        self.check("[2 x + y < 0]; [x > 0]; [y > 0]", rows_step((0, 1), (1, 1), (1, 1), (2, 1)), (), "no paper")

    def test_multipliers(self):
        self.check("[x < 0]; [x > 0]; [y < 3]", rows_step((0, 1), (1, 1), (2, 0)), (), "no paper")
        self.check("[x < 0]; [x > 0]", rows_step((0, 0), (1, 0)), (), "no paper")
        self.check("[x < 0]; [x > 0]", rows_step((0, -1), (1, -1)), (), "no paper")
        self.check("[x < 1]; [x < 0]", rows_step((0, 1), (1, -1)), (), "no paper")
        self.check("[x = 1]; [x = 2]; [y = 3]", rows_step((0, 1), (1, -1), (2, 0)), (), "no paper")
        self.check("[x < 0]; [0 = 1]", rows_step((1, 0)), (), "no paper")

    def test_the_order_in_one_step(self):
        self.check("true; [0 < 0]", rows_step((0, 1), (5, 1)), (), "no such formula")
        self.check("true; [0 < 0]", rows_step((5, 1), (0, 1)), (), "no such formula")
        self.check("true; [0 < 0]", rows_step((1, 1), (0, 1)), (), "not a row")
        self.check("true; [0 < 0]", rows_step((0, 0)), (), "not a row")
        self.check("[0 < 0]; true", rows_step((0, 1), (-1, 1)), (), "no such formula")
        self.check("false; true", ("or", 1, ()), (), "not an or")
        self.check("false; true", ("or", 2, ()), (), "no such formula")
        self.check("false or false", ("or", 0, (("false", 0),)), (), "other number of proofs")

    def test_the_path(self):
        self.check("true and true", ("and", 0, ("false", 1)), (0,), "not false")
        self.check("false or true", ("or", 0, (("false", 1), ("false", 1))), (1,), "not false")
        self.check("true and (false or ([x < 0] and true)); [x >= 0]", ("and", 0, ("or", 3, (
            ("false", 4), ("and", 4, rows_step((1, 1), (6, 1)))))), (0, 1, 0), "not a row")
        self.check_none("true and (false or ([x < 0] and true)); [x >= 0]", ("and", 0, ("or", 3, (
            ("false", 4), ("and", 4, rows_step((1, 1), (5, 1)))))))
        self.check("false or false or (false or true)", ("or", 0, (
            ("false", 1), ("false", 1), ("or", 1, (("false", 2), ("false", 2))))), (2, 1), "not false")

    def test_the_first_wrong_step(self):
        wrong = ("false", 9)
        self.check("false or false", ("or", 0, (wrong, ("false", 0))), (0,), "no such formula")
        self.check("false or false", ("or", 0, (("false", 0), wrong)), (0,), "not false")
        self.check("false or false; true", ("or", 1, (wrong, wrong)), (), "not an or")
        self.check("false or false", ("or", 0, (wrong, wrong, wrong)), (), "other number of proofs")
        self.check("true and true; true", ("and", 1, wrong), (), "not an and")
        # A step deep in the first proof comes ahead of the second proof.
        self.check("(false or (true and true)) or false", ("or", 0, (
            ("or", 1, (("false", 2), ("and", 2, ("false", 3)))), wrong)), (0, 1, 0), "not false")
        self.check("(false or (true and true)) or false", ("or", 0, (
            ("or", 1, (("false", 0), ("and", 9, ("false", 3)))), wrong)), (0, 0), "not false")

    def test_nothing_is_modified(self):
        formulas = formulas_of("false or not [x = 0]; [x = 0]")
        before = deepcopy(formulas)
        flaw_of_proof(formulas, decide(formulas)[1])
        self.assertEqual(formulas, before)

    def test_proofs_of_decide(self):
        counts = [0, 0]
        for formulas in some_lists(131, 250):
            try:
                word, found = decide(formulas)
            except FormulaError:
                continue
            if word == "proof":
                counts[0] += 1
                self.assertIsNone(flaw_of_proof(formulas, found))
                counts[1] += self.check_less(formulas, found)
        self.assertTrue(counts[0] > 50 and counts[1] > 50, counts)

    def check_less(self, formulas, proof):
        """Check the proof for the list without one formula each; return how often it has a flaw."""
        count = 0
        for at in range(len(formulas)):
            less = formulas[:at] + [TRUE] + formulas[at + 1:]
            flaw = flaw_of_proof(less, proof)
            self.assertIs(flaw is None, is_right([pushed_in(formula) for formula in less], proof))
            count += flaw is not None
        return count

    def test_a_deep_proof(self):
        formulas = [("and", (TRUE, FALSE))]
        proof = ("false", 2 * 900)
        for k in range(900):
            proof = ("and", 0, proof)
        self.assertIsNone(flaw_of_proof(formulas, proof))
        self.assertEqual(flaw_of_proof([("and", (TRUE, TRUE))], proof), ((0,) * 900, "not false"))


class TooManyRows(unittest.TestCase):
    def check(self, formulas, what="too many rows"):
        for function in (decide, lambda some: follows(some, FALSE)):
            with self.assertRaises(FormulaError) as caught:
                function(formulas)
            self.assertEqual((caught.exception.place, caught.exception.what), (0, what))
            self.assertIsInstance(caught.exception, LinpapersError)
        with self.assertRaises(TooMany) as caught:
            found_by(formulas)
        self.assertEqual(str(caught.exception), what)

    def rows(self, many):
        return [row_of(f"x <= {k}") for k in range(many)]

    def test_rows(self):
        self.assertEqual(decide(self.rows(8))[0], "point")
        self.check(self.rows(9))
        self.check([TRUE] + self.rows(11))
        self.check([row_of("x < 0")] * 9)
        self.assertEqual(decide([row_of("x < 0"), row_of("x > 0")] * 4)[0], "proof")
        self.check([row_of("x < 0"), row_of("x > 0")] * 4 + [row_of("0 < 1")])

    def test_unknowns(self):
        rows = [row_of(f"{name} <= 1") for name in "abcde"]
        self.assertEqual(decide(rows[:4])[0], "point")
        self.check(rows)
        self.check([row_of("a + b < 1"), row_of("c = d"), row_of("e > 1")])
        self.check([row_of("a + b + c + d + e < 1")])
        self.assertEqual(decide([row_of("a + b + c + d < 1"), row_of("d = c"), row_of("0 < 1")])[0], "point")

    def test_only_the_assumed_rows_count(self):
        more = ("or", (row_of("e <= 1"), row_of("f <= 1")))
        rows = [row_of(f"{name} <= 1") for name in "abcd"]
        self.assertEqual(decide([("or", (TRUE, more)), *rows])[0], "point")
        self.check([("or", (FALSE, more)), *rows])
        self.check([("or", (more, TRUE)), *rows])
        self.assertEqual(decide([("or", (row_of("a > 1"), TRUE, row_of("e = 1")))] + rows)[0], "point")
        self.assertEqual(decide([("or", (row_of("y = 1"), row_of("y = 2")))] + self.rows(7))[0], "point")
        self.check([("or", (row_of("y = 1"), row_of("y = 2")))] + self.rows(8))
        self.assertEqual(decide([("or", tuple(self.rows(8))), ("or", tuple(self.rows(8)))])[0], "point")

    def test_parts_of_an_and(self):
        self.assertEqual(decide([("and", tuple(self.rows(8)))])[0], "point")
        self.check([("and", tuple(self.rows(8))), row_of("x <= 99")])
        self.check([("and", (row_of("y <= 1"), ("and", tuple(self.rows(8)))))])

    def test_as_soon_as_they_are_assumed(self):
        self.assertEqual(decide(self.rows(8) + [FALSE, ("and", (row_of("y <= 1"), TRUE))]), ("proof", ("false", 8)))
        self.check(self.rows(9) + [FALSE])
        self.check([row_of("x < 0"), row_of("x > 0")] + self.rows(7))
        self.check([("and", (FALSE, row_of("y <= 1")))] + self.rows(8))
        contradiction = [row_of("x < 0"), row_of("x > 0")] + self.rows(6)
        self.assertEqual(decide(contradiction + [("and", (row_of("y <= 1"), TRUE))])[0], "proof")


class TooManySteps(unittest.TestCase):
    """What is looked at: one list for the formulas, and one for each `and` taken and each part of an `or`."""

    def check(self, formulas, what="too many steps"):
        with self.assertRaises(FormulaError) as caught:
            decide(formulas)
        self.assertEqual((caught.exception.place, caught.exception.what), (0, what))
        with self.assertRaises(TooMany) as caught:
            found_by(formulas)
        self.assertEqual(str(caught.exception), what)

    def lists(self, ands, last=FALSE):
        """Return formulas with so many ands, and ors with 4, 8 and 8 parts: 293 + ands lists are looked at."""
        return [("and", (TRUE, TRUE))] * ands + [
            ("or", tuple(row_of(f"x <= {k}") for k in range(4))), ("or", tuple(row_of(f"y <= {k}") for k in range(8))),
            ("or", (FALSE,) * 7 + (last,))]

    def test_proofs(self):
        self.assertEqual(found_by(self.lists(7))[1], 300)
        for ands in (0, 6, 7):
            formulas = self.lists(ands)
            word, proof = decide(formulas)
            self.assertEqual(word, "proof")
            self.assertIsNone(flaw_of_proof(formulas, proof))
        self.check(self.lists(8))
        self.check(self.lists(9))

    def test_points(self):
        # Only the last one of all lists leads to a point.
        last = row_of("x + y >= 10")
        found, count = found_by(self.lists(7, last))
        self.assertEqual((found[0], count), ("point", 300))
        self.assertEqual(decide(self.lists(7, last)), ("point", (("x", (3, 1)), ("y", (7, 1)))))
        self.check(self.lists(8, last))

    def test_ands_alone(self):
        chain = TRUE
        for _ in range(299):
            chain = ("and", (TRUE, chain))
        self.assertEqual(decide([chain]), ("point", ()))
        self.check([("and", (TRUE, chain))])
        self.check([chain, ("and", (TRUE, TRUE))])

    def test_ors_alone(self):
        chain = TRUE
        for _ in range(299):
            chain = ("or", (chain, FALSE))
        self.assertEqual(decide([chain]), ("point", ()))
        self.check([("or", (chain, FALSE))])
        self.check([("or", (FALSE, chain))])
        self.check([("or", (FALSE, chain[1][0]))])
        # The list with false counts as a step, too.
        shorter = chain[1][0][1][0]
        self.assertEqual(decide([("or", (FALSE, shorter))]), ("point", ()))

    def test_whichever_comes_first(self):
        many = ("and", tuple(row_of(f"z <= {k}") for k in range(8)))
        # Too many rows in the 300th list, and in the 301st one, which is counted ahead of anything else.
        self.check(self.chain(298, many), "too many rows")
        self.check(self.chain(299, many), "too many steps")
        self.check(self.chain(400, many), "too many steps")
        self.check(self.chain(10, many), "too many rows")

    def chain(self, ands, last):
        """Return formulas of which so many lists are looked at, and then one with all rows."""
        formula = last
        for _ in range(ands):
            formula = ("and", (TRUE, formula))
        return [row_of("x <= 1"), formula]


if __name__ == "__main__":
    unittest.main()
