"""linpapers/courts.py: questions, claims, answers, and whether claims hold."""

import unittest
from copy import deepcopy
from fractions import Fraction

from formulahelpers import FALSE, TRUE, formulas_of, row_of, rows_step, some_formulas, some_lists
from helpers import point_of, rows_of
from linpapers.courts import answer, judge, judge_all
from linpapers.errors import FormulaError
from linpapers.formulas import read_formula
from linpapers.interpolants import interpolant
from linpapers.proofs import decide, follows
from linpapers.wholes import decide_whole

HALF = Fraction(1, 2)
BOX = (("x", 0, 2), ("y", 0, 0))
NO_WHOLE = ("split", "x", 0, rows_step((1, 2), (3, 1), (4, -1)), rows_step((0, 2), (2, 1), (4, 1)))


def all_true(text):
    return ("all true", formulas_of(text))


def following(text, formula):
    return ("follows", formulas_of(text), read_formula(formula))


def apart(first, second):
    return ("apart", read_formula(first), read_formula(second))


def whole(box, text):
    return ("whole", box, rows_of(text))


# Questions of each kind with each word, whose answers are right papers.
QUESTIONS = [
    (all_true("[x >= 3] or [x <= -3]; [x < 0]"), "yes"), (all_true("[x < 0]; [x > 0] and true"), "no"),
    (all_true(""), "yes"), (all_true("true; false"), "no"),
    (following("[x <= 1]; [y <= 1]", "[x + y <= 2]"), "yes"), (following("[x <= 1]", "[y <= 1]"), "no"),
    (following("", "true"), "yes"), (following("", "false"), "no"),
    (apart("[x <= y] and [y < 3]", "[x > z] and [z >= 4]"), "yes"), (apart("[x <= 1]", "[y <= 1]"), "no"),
    (apart("[x <= 1] or [y <= 1]", "[x > 2] and [y > 3]"), "yes"), (apart("true", "not [x = 0]"), "no"),
    (whole(BOX, "2 x + 2 y = 4"), "yes"), (whole(BOX, "2 x + y = 1"), "no"),
    (whole(BOX, "x = 1/2"), "no"), (whole(BOX, "x > 2"), "no"), (whole(BOX, ""), "yes"),
]


class Checks(unittest.TestCase):
    def holds(self, question, word, paper):
        self.assertIs(judge((question, word, paper)), True, (question, word, paper))

    def fails(self, question, word, paper):
        self.assertIs(judge((question, word, paper)), False, (question, word, paper))


class Answer(Checks):
    def test_each_word(self):
        for question, word in QUESTIONS:
            before = deepcopy(question)
            claim = answer(question)
            self.assertIs(type(claim), tuple)
            self.assertEqual(len(claim), 3)
            self.assertEqual(claim[:2], (before, word))
            self.assertIs(claim[0], question)
            self.assertEqual(question, before)
            self.assertIs(judge(claim), True)

    def test_all_true(self):
        for question, word in QUESTIONS[:4]:
            found = decide(question[1])
            self.assertEqual(answer(question), (question, word, found[1]))
            self.assertEqual(found[0] == "point", word == "yes")

    def test_follows(self):
        for question, word in QUESTIONS[4:8]:
            found = follows(*question[1:])
            self.assertEqual(answer(question), (question, word, found[1]))
            self.assertEqual(found[0] == "proof", word == "yes")

    def test_apart(self):
        for question, word in QUESTIONS[8:12]:
            first, second = question[1:]
            formula = interpolant(first, second)
            if word == "no":
                self.assertIsNone(formula)
                self.assertEqual(answer(question), (question, "no", decide([first, second])[1]))
            else:
                proofs = [decide([first, ("not", formula)])[1], decide([formula, second])[1]]
                self.assertEqual(answer(question), (question, "yes", (formula, *proofs)))

    def test_whole(self):
        for question, word in QUESTIONS[12:]:
            found = decide_whole(*question[1:])
            self.assertEqual(answer(question), (question, word, found[1]))
            self.assertEqual(found[0] == "point", word == "yes")

    def test_by_hand(self):
        question = all_true("[x > 1/3]; [x < 1/2]")
        self.assertEqual(answer(question), (question, "yes", (("x", (2, 5)),)))
        question = following("[x <= 1]", "[x < 2]")
        self.assertEqual(answer(question), (question, "yes", rows_step((0, 1), (1, 1))))
        question = following("[x <= 1]", "[x < 1]")
        self.assertEqual(answer(question), (question, "no", point_of(x=1)))
        question = apart("[x <= 1]", "[x >= 2]")
        self.assertEqual(answer(question), (question, "yes", (
            row_of("x <= 1"), rows_step((0, 1), (1, 1)), rows_step((0, 1), (1, 1)))))
        question = apart("[x <= 1]", "[x >= 1]")
        self.assertEqual(answer(question), (question, "no", point_of(x=1)))
        question = whole(BOX, "2 x + y = 1")
        self.assertEqual(answer(question), (question, "no", NO_WHOLE))
        question = whole(BOX, "x >= 1/2")
        self.assertEqual(answer(question), (question, "yes", point_of(x=1, y=0)))

    def test_too_many_rows(self):
        nine = ("and", (("and", tuple(row_of(f"x <= {k}") for k in range(8))), row_of("x <= 9")))
        for question in (("all true", [nine]), ("follows", [nine], FALSE), ("follows", [], ("not", nine)),
                         ("apart", TRUE, nine), ("apart", nine, TRUE)):
            self.check_error(question, "too many rows")

    def test_too_many_steps(self):
        formulas = [("or", (TRUE,) * 8)] * 3 + [("or", (FALSE,) * 8)]
        box = (("x", -6, 6), ("y", 0, 17), ("z", 0, 12))
        for question in (("all true", formulas), ("follows", formulas, FALSE),
                         ("follows", formulas[:3], ("and", (TRUE,) * 8)), whole(box, "81 x + 42 y + 82 z = 1555")):
            self.check_error(question, "too many steps")

    def check_error(self, question, what):
        with self.assertRaises(FormulaError) as caught:
            answer(question)
        self.assertEqual((caught.exception.place, caught.exception.what), (0, what))

    def test_many(self):
        words = {}
        questions = [("all true", formulas) for formulas in some_lists(171, 80, longest=3, depth=2)]
        questions += [("follows", formulas, some_formulas(1700 + k, 1, depth=1)[0])
                      for k, formulas in enumerate(some_lists(172, 80, longest=2, depth=2))]
        questions += [("apart", *some_formulas(1900 + k, 2, depth=1 + k % 2, names="x")) for k in range(150)]
        claims = []
        for question in questions:
            try:
                claims.append(answer(question))
            except FormulaError:
                continue
            key = (question[0], claims[-1][1])
            words[key] = words.get(key, 0) + 1
        self.assertEqual(judge_all(claims), [])
        self.assertTrue(len(words) == 6 and min(words.values()) > 10, words)
        # The papers of other questions of the same kind hold only where they are right for these, too.
        swapped = [(claim[0], *other[1:]) for claim, other in zip(claims, claims[1:]) if claim[0][0] == other[0][0]]
        self.assertGreater(len(judge_all(swapped)), 50)


class AllTrue(Checks):
    def test_yes(self):
        question = all_true("[x >= 3] or [x <= -3]; [x < 0]")
        self.holds(question, "yes", point_of(x=-3))
        self.holds(question, "yes", point_of(x=-9))
        self.holds(question, "yes", point_of(a=5, x=-4))
        self.fails(question, "yes", point_of(x=3))
        self.fails(question, "yes", point_of(x=-2))
        self.fails(question, "yes", ())
        self.holds(all_true("[x >= 0]"), "yes", ())
        self.holds(all_true(""), "yes", ())
        self.fails(all_true("true; false"), "yes", ())

    def test_no(self):
        question = all_true("[x < 0]; [x > 0] and true")
        right = ("and", 1, rows_step((0, 1), (2, 1)))
        self.holds(question, "no", right)
        self.holds(question, "no", ("and", 1, rows_step((0, 5), (2, 5))))
        self.fails(question, "no", ("and", 1, rows_step((0, 1), (3, 1))))
        self.fails(question, "no", ("and", 1, rows_step((0, 1), (2, 2))))
        self.fails(question, "no", rows_step((0, 1), (1, 1)))
        self.fails(question, "no", ("false", 0))
        self.fails(all_true("[x > 0] and true; [x < 0]"), "no", right)
        self.fails(all_true("[x < 0]; [x >= 0] and true"), "yes", ())

    def test_a_proof_of_another_list(self):
        self.holds(all_true("false"), "no", ("false", 0))
        self.fails(all_true("true"), "no", ("false", 0))
        self.fails(all_true(""), "no", ("false", 0))


class Follows(Checks):
    def test_yes(self):
        question = following("[x <= 1]; [y <= 1]", "[x + y <= 2]")
        self.holds(question, "yes", rows_step((0, 1), (1, 1), (2, 1)))
        self.fails(question, "yes", rows_step((0, 1), (1, 1)))
        self.fails(question, "yes", rows_step((0, 1), (2, 1), (1, 1)))
        self.fails(question, "yes", ("false", 2))
        # The `not` of the formula stands behind the list.
        self.fails(following("[x <= 1]", "[x > 1]"), "yes", rows_step((0, 1), (1, 1)))
        self.holds(following("[x <= 1]", "[x < 2] or [y = 1]"), "yes", ("and", 1, rows_step((0, 1), (2, 1))))
        self.fails(following("[x <= 1]", "[x < 2] or [y = 1]"), "yes", ("or", 1, (rows_step((0, 1), (2, 1)),) * 2))

    def test_no(self):
        question = following("[x <= 1]", "[y <= 1]")
        self.holds(question, "no", point_of(x=1, y=2))
        self.holds(question, "no", point_of(y=2))
        self.fails(question, "no", point_of(x=1, y=1))
        self.fails(question, "no", point_of(x=2, y=2))
        self.fails(question, "no", point_of(x=2, y=1))
        self.fails(question, "no", ())
        self.fails(following("", "[x <= 1]"), "no", point_of(x=1))


class Apart(Checks):
    QUESTION = apart("[x <= y] and [y < 3]", "[x > z] and [z >= 4]")
    FIRST = ("and", 0, rows_step((1, 1), (2, 1), (3, 1)))
    SECOND = ("and", 1, rows_step((0, 1), (2, 1), (3, 1)))

    def test_yes(self):
        for text in ("[x < 3]", "[x <= 3]", "[x < 4]", "[2 x <= 7]", "[x + 2 < 6]"):
            self.holds(self.QUESTION, "yes", (read_formula(text), self.FIRST, self.SECOND))
        self.holds(self.QUESTION, "yes", (read_formula("not not [x < 3]"), self.FIRST, self.SECOND))

    def test_formulas_that_are_none_between(self):
        for text in ("[x < 2]", "[x < 5]", "true", "false", "[x > 3]", "[x >= 3]"):
            self.fails(self.QUESTION, "yes", (read_formula(text), self.FIRST, self.SECOND))

    def test_an_unknown_too_many(self):
        # These are right, but for an unknown that only one of both sides has.
        for text in ("[x <= y] and [y < 3]", "[x < 3] and [y < 3]"):
            formula = read_formula(text)
            first, second = self.QUESTION[1:]
            proofs = [decide([first, ("not", formula)]), decide([formula, second])]
            self.assertEqual([word for word, _ in proofs], ["proof", "proof"])
            self.fails(self.QUESTION, "yes", (formula, proofs[0][1], proofs[1][1]))
        for text in ("[x <= z] or [z < 4]", "[x < 3] or [z < 4]", "[x < 3] or [w = 0] and [w = 1]"):
            formula = read_formula(text)
            proofs = [decide([first, ("not", formula)]), decide([formula, second])]
            self.assertEqual([word for word, _ in proofs], ["proof", "proof"])
            self.fails(self.QUESTION, "yes", (formula, proofs[0][1], proofs[1][1]))

    def test_proofs_with_a_flaw(self):
        formula = row_of("x < 3")
        for wrong in (("false", 0), ("and", 0, rows_step((1, 1), (2, 1))), rows_step(), ("and", 1, self.FIRST[2])):
            self.fails(self.QUESTION, "yes", (formula, wrong, self.SECOND))
            self.fails(self.QUESTION, "yes", (formula, self.FIRST, wrong))
        self.fails(self.QUESTION, "yes", (formula, self.SECOND, self.FIRST))

    def test_exchanged_sides(self):
        _, first, second = self.QUESTION
        paper = answer(self.QUESTION)[2]
        self.fails(("apart", second, first), "yes", paper)
        self.holds(self.QUESTION, "yes", paper)
        self.holds(("apart", second, first), "yes", answer(("apart", second, first))[2])

    def test_no(self):
        question = apart("[x <= 1] or [y <= 1]", "[x > 1]")
        self.holds(question, "no", point_of(x=2, y=1))
        self.holds(question, "no", point_of(x=2))
        self.fails(question, "no", point_of(x=1, y=1))
        self.fails(question, "no", point_of(x=2, y=2))
        self.fails(question, "no", ())
        self.fails(self.QUESTION, "no", point_of(x=1, y=2, z=4))


class Whole(Checks):
    def test_yes(self):
        question = whole((("x", -1, 3), ("y", 2, 4)), "x + y <= 5")
        for x, y in ((-1, 2), (3, 2), (-1, 4), (1, 4), (0, 3)):
            self.holds(question, "yes", point_of(x=x, y=y))

    def test_points_that_miss(self):
        question = whole((("x", -1, 3), ("y", 2, 4)), "x + y <= 5")
        for x, y in ((2, 4), (3, 3), (3, 4)):
            self.fails(question, "yes", point_of(x=x, y=y))
        self.fails(whole((("x", 0, 1),), "x = 1/2"), "yes", point_of(x=0))

    def test_points_beside_the_box(self):
        question = whole((("x", -1, 3), ("y", 2, 4)), "x + y <= 5")
        for x, y in ((-2, 2), (4, 1), (0, 1), (0, 5), (-1, 5), (-2, 4)):
            self.fails(question, "yes", point_of(x=x, y=y))
        self.fails(whole((("x", 1, 3),), ""), "yes", point_of(x=0))
        self.fails(whole((("x", 1, 3),), ""), "yes", point_of(x=4))

    def test_too_many_or_too_few_unknowns(self):
        question = whole((("x", -1, 3), ("y", 0, 4)), "x + y <= 5")
        self.holds(question, "yes", point_of(x=1, y=0))
        self.fails(question, "yes", point_of(x=1))
        self.fails(question, "yes", point_of(y=0))
        self.fails(question, "yes", ())
        for extra in ("a", "xx", "z"):
            self.fails(question, "yes", point_of(x=1, y=0, **{extra: 0}))
        self.fails(question, "yes", point_of(x=1, z=0))

    def test_numbers_that_are_no_integers(self):
        question = whole((("x", -1, 3), ("y", 0, 4)), "x + y <= 5")
        for x, y in ((HALF, 0), (0, HALF), (HALF, HALF), (1, Fraction(5, 3)), (-HALF, 2)):
            self.fails(question, "yes", point_of(x=x, y=y))

    def test_no(self):
        question = whole(BOX, "2 x + y = 1")
        self.holds(question, "no", NO_WHOLE)
        self.fails(question, "no", ("never", 0))
        self.fails(question, "no", NO_WHOLE[3])
        self.fails(question, "no", ("split", "x", 1, *NO_WHOLE[3:]))
        self.fails(question, "no", ("split", "y", 0, *NO_WHOLE[3:]))
        self.fails(question, "no", ("split", "x", 0, NO_WHOLE[4], NO_WHOLE[3]))
        self.fails(whole(BOX, "2 x + y = 2"), "no", NO_WHOLE)
        self.fails(whole((("x", 0, 2), ("y", 0, 1)), "2 x + y = 1"), "no", NO_WHOLE)
        self.holds(whole(BOX, "x = 1/2"), "no", ("never", 0))
        self.fails(whole(BOX, "x <= 1/2"), "no", ("never", 0))


class Words(Checks):
    def test_any_other_word(self):
        for question, word in QUESTIONS:
            _, _, paper = answer(question)
            self.holds(question, word, paper)
            for other in ("", "maybe", "Yes", "NO", "yes ", "true", "point", "proof", "all true"):
                self.fails(question, other, paper)

    def test_the_other_word(self):
        for question, word in QUESTIONS:
            self.fails(question, "no" if word == "yes" else "yes", answer(question)[2])

    def test_papers_of_other_kinds(self):
        papers = [answer(question)[2] for question, _ in QUESTIONS]
        for question, word in QUESTIONS:
            right = answer(question)[2]
            for paper in papers:
                for some in ("yes", "no"):
                    if judge((question, some, paper)):
                        # What a paper shows is so.
                        self.assertEqual(some, word, (question, paper, right))
        self.fails(apart("true", "false"), "yes", (("and", (1, 1)), ("false", (1, 1)), ("or", (1, 1))))
        self.fails(all_true("false"), "no", (("false", (0, 1)),))

    def test_papers_of_no_kind(self):
        false = ("false", 0)
        papers = (None, 0, "x", "no", (0,), (1, 2), (1, 2, 3), ("x",), ("x", "y", "z"), (("x", 1),), ((), (), ()),
                  (("x", (1, 1), 0),), (("x", (1, 1, 1)),), ((0, (1, 1)),), (("x", ("1", "1")),), (("x", [1, 1]),),
                  [("x", (1, 1))], ["rows", ()], [TRUE, false, false], (TRUE, false), (("x",), false, false),
                  ("true", false, false))
        for question, _ in QUESTIONS:
            for paper in papers:
                for word in ("yes", "no", "maybe"):
                    self.fails(question, word, paper)

    def test_points_that_are_none(self):
        question = all_true("[x <= 1]")
        self.holds(question, "yes", (("x", (1, 1)),))
        self.fails(question, "yes", (("x", (2, 1)), ("x", (1, 1))))
        self.fails(question, "yes", (("y", (2, 1)), ("x", (1, 1))))


class JudgeAll(Checks):
    def test_indices_in_order(self):
        right = [answer(question) for question, _ in QUESTIONS]
        wrong = [(question, "maybe", paper) for question, _, paper in right]
        self.assertEqual(judge_all([]), [])
        self.assertEqual(judge_all(right), [])
        self.assertEqual(judge_all(wrong), list(range(len(wrong))))
        self.assertEqual(judge_all([wrong[0], right[0], right[1], wrong[1], right[2], wrong[2]]), [0, 3, 5])
        self.assertEqual(judge_all(right[:3] + wrong[3:4] + right[4:]), [3])
        self.assertEqual(judge_all([wrong[0]] * 3), [0, 1, 2])

    def test_nothing_is_modified(self):
        claims = [answer(question) for question, _ in QUESTIONS]
        before = deepcopy(claims)
        judge_all(claims).append(7)
        self.assertEqual(claims, before)
        self.assertEqual(judge_all(claims), [])


if __name__ == "__main__":
    unittest.main()
