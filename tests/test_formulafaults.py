"""linpapers/formulas.py: the faults of texts of formulas, each with its place, and the limits of formulas."""

import unittest

from formulahelpers import FALSE, TRUE
from linpapers.errors import FormulaError, LinpapersError, TextError
from linpapers.formulas import read_formula


class Checks(unittest.TestCase):
    def check(self, text, place, what):
        with self.assertRaises(FormulaError) as caught:
            read_formula(text)
        self.assertEqual((caught.exception.place, caught.exception.what), (place, what), text)

    def check_not_expected(self, text, place):
        self.check(text, place, "not expected")

    def check_not_finished(self, text):
        self.check(text, len(text), "not finished")

    def check_limit(self, text, what):
        self.check(text, len(text), what)


class NotExpected(Checks):
    def test_the_kind_of_the_error(self):
        for kind in (FormulaError, LinpapersError, ValueError):
            with self.assertRaises(kind):
                read_formula("and")
            with self.assertRaises(kind):
                read_formula("[x ? 1]")
        try:
            read_formula("[x ? 1]")
        except FormulaError as fault:
            self.assertNotIsInstance(fault, TextError)

    def test_other_words(self):
        for word in ("x", "truex", "nottrue", "tru", "falsetrue", "andor", "xor", "a" * 20, "no", "trueand"):
            self.check_not_expected(word, 0)
            self.check_not_expected(f"  {word}", 2)
            self.check_not_expected(f"true {word}", 5)
            self.check_not_expected(f"true and {word} or true", 9)
            self.check_not_expected(f"not {word}", 4)
            self.check_not_expected(f"({word})", 1)
            self.check_not_expected(f"[x <= 1]{word}", 8)
            self.check_not_expected(f"(true){word}", 6)
            self.check_not_expected(f"(true {word} true)", 6)

    def test_at_the_start(self):
        for token in ("and", "or", ")", "]"):
            self.check_not_expected(token, 0)
            self.check_not_expected(f"   {token} true", 3)

    def test_behind_not(self):
        for token in ("and", "or", ")", "]"):
            self.check_not_expected(f"not {token}", 4)
            self.check_not_expected(f"(not {token} true)", 5)
            self.check_not_expected(f"true or not not  {token}", 17)

    def test_behind_and_and_or(self):
        for token in ("and", "or", ")", "]"):
            for word in ("and", "or "):
                self.check_not_expected(f"true {word} {token}", 9)
                self.check_not_expected(f"(true {word} {token}", 10)
                self.check_not_expected(f"[x = 1]{word} {token}true", 11)

    def test_behind_an_opening_bracket(self):
        for token in ("and", "or", ")", "]"):
            self.check_not_expected(f"({token}", 1)
            self.check_not_expected(f"((  {token} true)", 4)
            self.check_not_expected(f"true and ({token})", 10)

    def test_behind_a_formula(self):
        for formula in ("true", "false", "[x <= 1]", "(true)", "not true", "(true or false)"):
            for token in ("(", "[x <= 1]", "not", "true", "false", "]", "not true", "(true)"):
                self.check_not_expected(f"{formula} {token}", len(formula) + 1)
                self.check_not_expected(f"({formula} {token}", len(formula) + 2)
                self.check_not_expected(f"true and {formula}  {token}", len(formula) + 11)

    def test_directly_behind(self):
        self.check_not_expected("[x <= 1][x <= 1]", 8)
        self.check_not_expected("[x <= 1]not true", 8)
        self.check_not_expected("(true)(true)", 6)
        self.check_not_expected("true(true)", 4)
        self.check_not_expected("true[x <= 1]", 4)
        self.check_not_expected("[x <= 1]]", 8)

    def test_a_closing_bracket_too_many(self):
        self.check_not_expected("true)", 4)
        self.check_not_expected("(true))", 6)
        self.check_not_expected("((true) and false)) or true", 18)
        self.check_not_expected("[x <= 1] )", 9)
        self.check_not_expected("(true) and true)", 15)
        self.check_not_expected(")(", 0)

    def test_characters_that_begin_no_token(self):
        for char in "1?A<=+-*/{}#&|!_.,;:'\"\\~^`$@\n0Z":
            self.check_not_expected(char, 0)
            self.check_not_expected(f" {char}true", 1)
            self.check_not_expected(f"not{char}true", 3)
            self.check_not_expected(f"not {char}", 4)
            self.check_not_expected(f"true and{char}", 8)
            self.check_not_expected(f"true or {char} true", 8)
            self.check_not_expected(f"[x <= 1]{char}", 8)
            self.check_not_expected(f"[x <= 1] {char}", 9)
            self.check_not_expected(f"({char}", 1)
            self.check_not_expected(f"(true{char}", 5)
            self.check_not_expected(f"(true){char}", 6)
            self.check_not_expected(f"(true) {char}", 7)
            self.check_not_expected(f"true{char}", 4)

    def test_words_and_digits(self):
        self.check_not_expected("true1", 4)
        self.check_not_expected("and1", 0)
        self.check_not_expected("true and2 true", 8)
        self.check_not_expected("notTrue", 3)

    def test_an_opening_square_bracket_that_may_not_stand_there(self):
        for behind in ("", "x", "x <= 1", "x <= 1]", "x ? 1]", "]"):
            self.check_not_expected(f"true [{behind}", 5)
            self.check_not_expected(f"[x <= 1][{behind}", 8)
            self.check_not_expected(f"(true)  [{behind}", 8)


class Comparisons(Checks):
    def test_not_a_token(self):
        for text, place in (("?", 0), ("x ? 1", 2), ("x <= 01", 6), ("x <= 1234567", 11), ("abcdefghi < 1", 8),
                            ("x <= 1/0", 6), ("x < X", 4), ("x\n< 1", 1), ("[x < 1", 0), ("x < (1)", 4)):
            self.check(f"[{text}]", 1 + place, "not a token")
            self.check(f"true and not  ([{text}]) or", 16 + place, "not a token")

    def test_not_expected(self):
        for text, place in (("<= 1", 0), ("x x <= 1", 2), ("x <= <", 5), ("x <= 1 < 2", 7), ("x + - y < 1", 4),
                            ("+ x < 1", 0), ("1 2 x < 1", 2), ("x 2 < 1", 2)):
            self.check(f"[{text}]", 1 + place, "not expected")
            self.check(f"(true) or not [ {text}]", 16 + place, "not expected")

    def test_not_finished(self):
        for text in ("", " ", "x", "x <", "x <= 1 +", "2 x + 3 y  ", "-", "x < -"):
            self.check(f"[{text}]", 1 + len(text), "not finished")
            self.check(f"true or [{text}] and ?", 9 + len(text), "not finished")

    def test_up_to_the_next_square_bracket(self):
        self.check("[x <= 1 and [y < 2]", 12, "not a token")
        self.check("[x <= y and [y < 2]", 8, "not expected")
        self.check("[x <= 1 [y < 2]", 8, "not a token")
        self.check("[x <= ]1]", 6, "not finished")
        self.check("[x <= (1]", 6, "not a token")


class NotFinished(Checks):
    def test_an_empty_text(self):
        self.check_not_finished("")
        self.check_not_finished("    ")

    def test_behind_a_word(self):
        for text in ("not", "true and", "true or", "not not", "true and not", "[x <= 1] or", "(true) and"):
            self.check_not_finished(text)
            self.check_not_finished(text + "   ")
            self.check_not_finished("(" + text)

    def test_behind_an_opening_bracket(self):
        for text in ("(", "((", "not (", "true and ( ", "true or (("):
            self.check_not_finished(text)

    def test_brackets_that_are_not_closed(self):
        for text in ("(true", "((true)", "(true or (false)", "not (true", "(([x <= 1]) ", "true and (false or true"):
            self.check_not_finished(text)

    def test_square_brackets_that_are_not_closed(self):
        for behind in ("", "x", "x <= 1", "x ? 1", "? ? ?", "true", "[", "x <= 1 ) and ?"):
            self.check_not_finished(f"[{behind}")
            self.check_not_finished(f"not [{behind}")
            self.check_not_finished(f"true and ([{behind}")
            self.check_not_finished(f"[x <= 1] or [{behind}")


class TheFirst(Checks):
    def test_the_first_fault_from_the_left(self):
        self.check("[x ? 1] ) ?", 3, "not a token")
        self.check("true) [x ? 1]", 4, "not expected")
        self.check("[x <= ] and and", 6, "not finished")
        self.check("and [x ? 1", 0, "not expected")
        self.check("true true ?", 5, "not expected")
        self.check("? true true", 0, "not expected")
        self.check("[x ? 1] and [y < <]", 3, "not a token")
        self.check("[x < <] and [y ? 1]", 5, "not expected")
        self.check("(true or ) and", 9, "not expected")
        self.check("(true or word", 9, "not expected")
        self.check("(true [", 6, "not expected")

    def test_faults_go_ahead_of_the_limits(self):
        deep = "not " * 12
        self.check(deep + "true )", 53, "not expected")
        self.check(deep + "[x ? 1]", 51, "not a token")
        self.check(deep, 48, "not finished")
        self.check("(" + deep + "true", 53, "not finished")
        self.check(" or ".join(["true"] * 9) + " or", 71, "not finished")
        self.check("[a + b + c + d + e < 1] ?", 24, "not expected")
        self.check(" and ".join(["not not not not true"] * 8) + " ?", 196, "not expected")


class Limits(Checks):
    def test_too_deep(self):
        self.assertEqual(read_formula("not " * 11 + "true")[0], "not")
        self.check_limit("not " * 12 + "true", "too deep")
        self.check_limit("not " * 12 + "true  ", "too deep")
        self.check_limit("not " * 12 + "[x <= 1]", "too deep")
        self.check_limit("not " * 70 + "true", "too deep")

    def test_too_deep_with_and_and_or(self):
        self.assertEqual(read_formula(self.nested(11))[0], "or")
        self.check_limit(self.nested(12), "too deep")
        self.assertEqual(read_formula(self.nested(10) + " and true")[0], "or")
        self.assertEqual(read_formula("true and (" + self.nested(10) + ")")[0], "and")
        self.check_limit("true and (" + self.nested(11) + ")", "too deep")
        self.check_limit("true or " + "not " * 11 + "true or false", "too deep")
        self.assertEqual(read_formula("true or " + "not " * 10 + "true or false")[0], "or")

    def nested(self, many):
        """Return the text of a formula with a part that stands in so many others, of `or` and `and` in turn."""
        text = "true"
        for k in range(many):
            text = f"true or {text}" if (many - k) % 2 else f"false and ({text})"
        return text

    def test_too_many_formulas(self):
        words = ["not not not not true"] * 7
        for between in (" and ", " or "):
            # Itself, 7 parts with 5 formulas and one with 4 are 40.
            self.assertEqual(len(read_formula(between.join(words + ["not not not true"]))[1]), 8)
            self.check_limit(between.join(words + ["not not not not true"]), "too many formulas")
        inner = "(true or true or true)"
        # 1 + 7 * 4 + 6 are 35; with 5 words `not` they are 40.
        text = " and ".join([inner] * 7 + ["not not not not not (true or true or true or true or true)"])
        self.assertEqual(len(read_formula(text)[1]), 8)
        self.check_limit(text.replace("not not", "not not not", 1), "too many formulas")

    def test_too_many_parts(self):
        for word in ("and", "or"):
            for start, end in (("", ""), ("not (", ")"), ("false or (", ")"), ("not (true and (", "))")):
                for many in (8, 9, 12):
                    text = start + f" {word} ".join(["true"] * many) + end
                    if many == 8:
                        self.assertIn((word, (TRUE,) * 8), [read_formula(text), self.last(read_formula(text))])
                    else:
                        self.check_limit(text, "too many parts")

    def last(self, formula):
        """Return the last formula with parts in a formula."""
        inner = formula[1] if formula[0] == "not" else formula[1][-1]
        return self.last(inner) if inner[0] in ("not", "and", "or") else formula

    def test_brackets_make_parts_fewer(self):
        self.assertEqual(read_formula("(" + " or ".join(["true"] * 8) + ") or false"),
                         ("or", (("or", (TRUE,) * 8), FALSE)))

    def test_too_many_unknowns(self):
        self.assertEqual(read_formula("[a + b + c + d < 1]")[0], "row")
        self.check_limit("[a + b + c + d + e < 1]", "too many unknowns")
        self.assertEqual(read_formula("[a < b] and not [c < d] or [a < d]")[0], "or")
        self.check_limit("[a < b] and not [c < d] or [a < e]", "too many unknowns")
        self.check_limit("[a < 1] or [b < 1] or [c < 1] or [d < 1] or not not [a10 < 1]", "too many unknowns")
        self.assertEqual(read_formula("[a + b < 1] and [c + d < 1] and [e - e < 1]")[0], "and")

    def test_two_broken_at_once(self):
        deep = "not " * 12
        parts = ["true"] * 9
        formulas = ["not not not not true"] * 8
        unknowns = "[a + b + c + d + e < 1]"
        self.check_limit("not " * 40 + "true", "too deep")
        self.check_limit(deep + "(" + " or ".join(parts) + ")", "too deep")
        self.check_limit(deep + unknowns, "too deep")
        self.check_limit(" or ".join(formulas + ["true"]), "too many formulas")
        self.check_limit(" or ".join(formulas + ["true"] * 2 + [unknowns]), "too many formulas")
        self.check_limit(" or ".join(parts + [unknowns]), "too many parts")
        self.check_limit(" or ".join([unknowns] + formulas[:6] + ["true"]), "too many unknowns")
        self.check_limit(" or ".join(formulas + [unknowns]), "too many formulas")


if __name__ == "__main__":
    unittest.main()
