"""linpapers/benches.py: facts in levels, what follows from them, and what is taken back."""

import random
import unittest
from copy import deepcopy

from formulahelpers import FALSE, TRUE, formulas_of, row_of, some_formulas
from linpapers.benches import Bench, replayed
from linpapers.errors import BenchError, FormulaError, LinpapersError
from linpapers.formulas import read_formula
from linpapers.proofs import decide, follows

A, B, C = row_of("x <= 1"), row_of("y < 2"), row_of("x + y = 3")
NINE_ROWS = ("and", tuple(row_of(f"x <= {k}") for k in range(8)))


def told(text):
    """Return a bench to which formulas were told, with a level for each `|` ahead of one."""
    bench = Bench()
    for level, part in enumerate(text.split("|")):
        if level:
            bench.push()
        for formula in formulas_of(part.strip()):
            bench.tell(formula)
    return bench


def state(bench):
    """Return all that a bench shows, and what it does when all is taken back."""
    back = bench.branch()
    names = []
    while True:
        names.append((back.undo(), back.facts, back.levels, back.log))
        if names[-1][0] is False:
            return bench.facts, bench.levels, bench.log, names


class Checks(unittest.TestCase):
    def check(self, bench, facts, levels):
        self.assertEqual((bench.facts, bench.levels, len(bench)), (facts, levels, len(facts)))
        self.assertEqual(list(bench), facts)

    def check_error(self, what, function, *arguments):
        with self.assertRaises(BenchError) as caught:
            function(*arguments)
        self.assertEqual(caught.exception.what, what)
        self.assertIsInstance(caught.exception, LinpapersError)


class Facts(Checks):
    def test_a_new_bench(self):
        bench = Bench()
        self.check(bench, [], [0])
        self.assertEqual(bench.log, [])
        self.assertIs(bench.undo(), False)
        self.assertEqual(bench.branch(), bench)

    def test_tell(self):
        bench = Bench()
        self.assertIs(bench.tell(A), True)
        self.check(bench, [A], [1])
        self.assertIs(bench.tell(row_of("x > 1")), False)
        self.check(bench, [A, row_of("x > 1")], [2])
        self.assertIs(bench.tell(TRUE), False)
        self.check(bench, [A, row_of("x > 1"), TRUE], [3])
        self.assertIs(Bench().tell(FALSE), False)
        self.assertIs(Bench().tell(("not", FALSE)), True)

    def test_tell_as_it_was_passed(self):
        formula = read_formula("not ([x <= 1] and not [y = 2])")
        bench = Bench()
        self.assertIs(bench.tell(formula), True)
        self.assertEqual(bench.facts, [formula])
        self.assertEqual(bench.log, [("tell", formula)])

    def test_what_tell_returns(self):
        chosen = random.Random(161)
        counts = {True: 0, False: 0}
        for k in range(60):
            bench, formulas = Bench(), []
            for formula in some_formulas(chosen.random(), 3, depth=2):
                if chosen.random() < 0.3:
                    bench.push()
                formulas.append(formula)
                result = bench.tell(formula)
                self.assertIs(result, decide(formulas)[0] == "point")
                self.assertEqual(bench.facts, formulas)
                counts[result] += 1
        self.assertGreater(min(counts.values()), 20)

    def test_the_same_fact_again(self):
        bench = told("[x <= 1]; [x <= 1] | [x <= 1]")
        self.check(bench, [A, A, A], [2, 1])

    def test_len_and_for(self):
        bench = told("[x <= 1]; [y < 2] | [x + y = 3]")
        self.assertEqual(len(bench), 3)
        self.assertEqual([fact for fact in bench], [A, B, C])
        self.assertEqual(list(enumerate(bench)), [(0, A), (1, B), (2, C)])
        self.assertEqual(list(Bench()), [])
        self.assertEqual(len(Bench()), 0)

    def test_in(self):
        bench = told("[x <= 1] | not [y < 2]")
        self.assertIs(A in bench, True)
        self.assertIs(("not", B) in bench, True)
        self.assertIs(B in bench, False)
        self.assertIs(row_of("y >= 2") in bench, False)
        self.assertIs(("row", ((("x", (1, 1)),), "<=", (1, 1))) in bench, True)
        bench.pop()
        self.assertIs(("not", B) in bench, False)
        for value in (None, 0, 1, "x", "[x <= 1]", (), [], {}, set(), [A], A[1], (A,), bench, Bench(), 1.5, b"", Bench):
            self.assertIs(value in bench, False)
            self.assertIs(value in Bench(), False)

    def test_properties_without_setters(self):
        bench = told("[x <= 1]")
        for name in ("facts", "levels", "log"):
            with self.assertRaises(AttributeError):
                setattr(bench, name, [])
            with self.assertRaises(AttributeError):
                delattr(bench, name)
            self.assertIsInstance(getattr(Bench, name), property)
        self.check(bench, [A], [1])

    def test_the_lists_are_new(self):
        bench = told("[x <= 1]; [y < 2] | [x + y = 3]")
        before = state(bench)
        for name in ("facts", "levels", "log"):
            found = getattr(bench, name)
            self.assertIs(type(found), list)
            self.assertIsNot(getattr(bench, name), found)
            found.clear()
            getattr(bench, name).append(None)
            getattr(bench, name).reverse()
        bench.grounds(A).append(7)
        self.assertEqual(state(bench), before)
        self.assertEqual(bench.grounds(A), [0])

    def test_for_while_it_changes(self):
        bench = told("[x <= 1]; [y < 2]")
        seen = []
        for fact in bench:
            seen.append(fact)
            bench.tell(TRUE)
        self.assertEqual(seen, [A, B])


class Levels(Checks):
    def test_push(self):
        bench = told("[x <= 1]")
        self.assertEqual(bench.push(), 2)
        self.check(bench, [A], [1, 0])
        bench.tell(B)
        self.assertEqual(bench.push(), 3)
        self.assertEqual(bench.push(), 4)
        bench.tell(C)
        self.check(bench, [A, B, C], [1, 1, 0, 1])

    def test_pop(self):
        bench = told("[x <= 1] | [y < 2]; true | | [x + y = 3]")
        self.check(bench, [A, B, TRUE, C], [1, 2, 0, 1])
        self.assertEqual(bench.pop(), 3)
        self.check(bench, [A, B, TRUE], [1, 2, 0])
        self.assertEqual(bench.pop(), 2)
        self.check(bench, [A, B, TRUE], [1, 2])
        self.assertEqual(bench.pop(), 1)
        self.check(bench, [A], [1])

    def test_tell_behind_pop(self):
        bench = told("[x <= 1] | [x > 1]")
        self.assertIs(bench.tell(B), False)
        bench.pop()
        self.assertIs(bench.tell(B), True)
        self.check(bench, [A, B], [2])

    def test_too_many_levels(self):
        bench = Bench()
        self.assertEqual([bench.push() for _ in range(7)], [2, 3, 4, 5, 6, 7, 8])
        before = state(bench)
        self.check_error("too many levels", bench.push)
        self.assertEqual(state(bench), before)
        self.assertEqual(bench.pop(), 7)
        self.assertEqual(bench.push(), 8)
        self.check_error("too many levels", bench.push)

    def test_first_level(self):
        bench = told("[x <= 1]")
        before = state(bench)
        self.check_error("first level", bench.pop)
        self.check_error("first level", Bench().pop)
        self.assertEqual(state(bench), before)
        bench.push()
        self.assertEqual(bench.pop(), 1)
        self.check_error("first level", bench.pop)

    def test_too_many_facts(self):
        bench = Bench()
        for k in range(12):
            self.assertIs(bench.tell(TRUE), True)
        before = state(bench)
        self.check_error("too many facts", bench.tell, TRUE)
        self.assertEqual(state(bench), before)
        self.assertEqual((len(bench), bench.levels), (12, [12]))

    def test_facts_of_all_levels_count(self):
        bench = told("true; true; true; true; true | true; true; true; true; true | true; true")
        self.check_error("too many facts", bench.tell, TRUE)
        bench.push()
        self.check_error("too many facts", bench.tell, TRUE)
        bench.pop()
        bench.pop()
        self.assertEqual([bench.tell(TRUE), bench.tell(FALSE)], [True, False])
        self.check_error("too many facts", bench.tell, TRUE)


class Faults(Checks):
    def check_formula_error(self, what, function, *arguments):
        with self.assertRaises(FormulaError) as caught:
            function(*arguments)
        self.assertEqual((caught.exception.place, caught.exception.what), (0, what))

    def test_tell(self):
        bench = told("[x <= 1] | [y < 2]")
        bench.undo()
        before = state(bench)
        self.check_formula_error("too many rows", bench.tell, NINE_ROWS)
        self.assertEqual(state(bench), before)
        self.check_formula_error("too many rows", bench.tell, row_of("a + b < c + d"))
        self.assertEqual(state(bench), before)
        self.assertIs(bench.tell(B), True)
        self.check(bench, [A, B], [1, 1])

    def test_too_many_steps(self):
        bench = Bench()
        for _ in range(2):
            bench.tell(("or", (TRUE,) * 8))
        bench.tell(row_of("x <= 1"))
        before = state(bench)
        # 1 + 8 * (1 + 8 * 5) lists are 329.
        formula = ("or", (FALSE,) * 4)
        self.check_formula_error("too many steps", bench.tell, formula)
        self.assertEqual(state(bench), before)
        self.check_formula_error("too many steps", bench.ask, ("and", (TRUE,) * 4))
        self.assertIs(bench.tell(("or", (FALSE,) * 3)), False)

    def test_bench_error_goes_ahead(self):
        bench = Bench()
        for _ in range(12):
            bench.tell(TRUE)
        before = state(bench)
        self.check_error("too many facts", bench.tell, NINE_ROWS)
        self.check_error("too many facts", bench.tell, ("and", (NINE_ROWS, NINE_ROWS)))
        self.assertEqual(state(bench), before)

    def test_ask_and_grounds(self):
        bench = told("[x <= 1] | [y < 2]")
        before = state(bench)
        self.check_formula_error("too many rows", bench.ask, ("not", NINE_ROWS))
        self.check_formula_error("too many rows", bench.grounds, ("not", NINE_ROWS))
        self.check_formula_error("too many rows", bench.ask, row_of("a + b < c + d"))
        self.check_formula_error("too many rows", bench.grounds, row_of("a + b < c + d"))
        # It does not follow; only the second question of ask comes to the limit.
        self.check_formula_error("too many rows", bench.ask, NINE_ROWS)
        self.assertIsNone(bench.grounds(NINE_ROWS))
        self.assertEqual(state(bench), before)


class Ask(Checks):
    def test_true_false_and_none(self):
        bench = told("[x <= 1] | [y < 2]")
        self.assertIs(bench.ask(row_of("x < 2")), True)
        self.assertIs(bench.ask(row_of("x + y < 3")), True)
        self.assertIs(bench.ask(row_of("x > 1")), False)
        self.assertIs(bench.ask(read_formula("[x + y >= 3] or [x = 2]")), False)
        self.assertIs(bench.ask(row_of("x <= 0")), None)
        self.assertIs(bench.ask(row_of("z <= 0")), None)
        self.assertIs(bench.ask(TRUE), True)
        self.assertIs(bench.ask(FALSE), False)

    def test_without_facts(self):
        self.assertIs(Bench().ask(TRUE), True)
        self.assertIs(Bench().ask(FALSE), False)
        self.assertIs(Bench().ask(A), None)
        self.assertIs(Bench().ask(read_formula("[x <= 1] or [x > 0]")), True)

    def test_all_levels_count(self):
        bench = told("[x <= 1] | [y < 2]")
        self.assertIs(bench.ask(row_of("x + y < 3")), True)
        bench.pop()
        self.assertIs(bench.ask(row_of("x + y < 3")), None)

    def test_facts_without_a_point(self):
        bench = told("[x <= 1]; [x > 1]")
        for formula in (A, B, ("not", A), TRUE, FALSE):
            self.assertIs(bench.ask(formula), True)

    def test_nothing_is_changed(self):
        bench = told("[x <= 1] | [y < 2]")
        before = state(bench)
        bench.ask(A)
        bench.grounds(A)
        self.assertEqual(state(bench), before)

    def test_many(self):
        counts = {True: 0, False: 0, None: 0}
        for k in range(120):
            bench = Bench()
            for formula in some_formulas(1600 + k, 2, depth=1, names="x"):
                bench.tell(formula)
            formula = some_formulas(1800 + k, 1, depth=1, names="x")[0]
            result = bench.ask(formula)
            yes = follows(bench.facts, formula)[0] == "proof"
            no = follows(bench.facts, ("not", formula))[0] == "proof"
            self.assertIs(result, True if yes else False if no else None)
            counts[result] += 1
        self.assertGreater(min(counts.values()), 10, counts)


class Grounds(Checks):
    def test_what_is_left(self):
        bench = told("[x <= 1]; [y < 2] | [z = 4]; [x + y >= 1]")
        self.assertEqual(bench.grounds(row_of("x < 2")), [0])
        self.assertEqual(bench.grounds(row_of("x + y < 3")), [0, 1])
        self.assertEqual(bench.grounds(row_of("z > 3")), [2])
        self.assertEqual(bench.grounds(read_formula("[z > 3] and [x > -1]")), [1, 2, 3])
        self.assertEqual(bench.grounds(TRUE), [])
        self.assertEqual(bench.grounds(read_formula("[x <= 1] or [x > 0]")), [])

    def test_from_the_first_to_the_last(self):
        bench = told("[x <= 1]; [x <= 2]; [x <= 1]; [x <= 3]")
        self.assertEqual(bench.grounds(row_of("x <= 1")), [2])
        self.assertEqual(bench.grounds(row_of("x <= 2")), [2])
        self.assertEqual(bench.grounds(row_of("x <= 3")), [3])
        self.assertEqual(told("[x = 1]; [x <= 1]; [x >= 1]").grounds(row_of("x = 1")), [1, 2])
        self.assertEqual(told("[x <= 1]; [x >= 1]; [x = 1]").grounds(row_of("x = 1")), [2])

    def test_none(self):
        bench = told("[x <= 1]; [y < 2]")
        self.assertIsNone(bench.grounds(row_of("x < 1")))
        self.assertIsNone(bench.grounds(row_of("z < 1")))
        self.assertIsNone(bench.grounds(FALSE))
        self.assertIsNone(Bench().grounds(A))
        self.assertIsNone(bench.grounds(row_of("x > 1")))

    def test_without_facts(self):
        self.assertEqual(Bench().grounds(TRUE), [])

    def test_facts_without_a_point(self):
        bench = told("[y < 2]; [x <= 1]; [x > 1]; [x > 2]")
        self.assertEqual(bench.grounds(FALSE), [1, 3])
        self.assertEqual(bench.grounds(row_of("y < 2")), [1, 3])
        self.assertEqual(bench.grounds(row_of("x <= 1")), [1])
        self.assertEqual(told("[x > 2]; [x <= 1]; [y < 2]").grounds(row_of("y < 3")), [2])

    def test_many(self):
        counts = {"raised": 0, "none": 0, "less": 0, "all": 0}
        for k in range(120):
            bench = Bench()
            for formula in some_formulas(2000 + k, 4, depth=k % 2, names="xy"[:1 + k % 3]):
                bench.tell(formula)
            for formula in some_formulas(2200 + k, 2, depth=1, names="x"):
                counts[self.check_grounds(bench, formula)] += 1
        self.assertTrue(counts["none"] > 50 and counts["less"] > 50, counts)

    def check_grounds(self, bench, formula):
        """Check the grounds of a formula against another telling; return what kind they are of."""
        try:
            expected = self.left_of(bench.facts, formula)
        except FormulaError as fault:
            self.check_raised(fault, bench.grounds, formula)
            return "raised"
        found = bench.grounds(formula)
        self.assertEqual(found, expected)
        self.assertIs(type(found), list if found is not None else type(None))
        return "none" if found is None else "all" if len(found) == len(bench) else "less"

    def left_of(self, facts, formula):
        if follows(facts, formula)[0] == "point":
            return None
        left = list(range(len(facts)))
        for number in range(len(facts)):
            less = [other for other in left if other != number]
            if follows([facts[other] for other in less], formula)[0] == "proof":
                left = less
        return left

    def check_raised(self, fault, function, *arguments):
        with self.assertRaises(FormulaError) as caught:
            function(*arguments)
        self.assertEqual((caught.exception.place, caught.exception.what), (fault.place, fault.what))


class Undo(Checks):
    def test_each(self):
        bench = told("[x <= 1]")
        self.assertEqual(bench.undo(), "tell")
        self.check(bench, [], [0])
        bench.push()
        self.assertEqual(bench.undo(), "push")
        self.check(bench, [], [0])
        bench = told("[x <= 1] | [y < 2]")
        bench.pop()
        self.assertEqual(bench.undo(), "pop")
        self.check(bench, [A, B], [1, 1])

    def test_in_turn(self):
        bench = told("[x <= 1] | [y < 2]; true | ")
        bench.pop()
        bench.pop()
        bench.tell(C)
        expected = [("tell", [A], [1]), ("pop", [A, B, TRUE], [1, 2]), ("pop", [A, B, TRUE], [1, 2, 0]),
                    ("push", [A, B, TRUE], [1, 2]), ("tell", [A, B], [1, 1]), ("tell", [A], [1, 0]),
                    ("push", [A], [1]), ("tell", [], [0])]
        for name, facts, levels in expected:
            self.assertEqual(bench.undo(), name)
            self.check(bench, facts, levels)
        self.assertIs(bench.undo(), False)
        self.assertIs(bench.undo(), False)
        self.check(bench, [], [0])

    def test_what_was_taken_back_is_gone(self):
        bench = told("[x <= 1]; [y < 2]")
        bench.undo()
        bench.tell(C)
        self.check(bench, [A, C], [2])
        self.assertEqual(bench.log, [("tell", A), ("tell", C)])
        self.assertEqual([bench.undo(), bench.undo(), bench.undo()], ["tell", "tell", False])
        self.check(bench, [], [0])

    def test_a_pop_that_is_taken_back(self):
        bench = told("[x <= 1] | [y < 2]; [x + y = 3]")
        bench.pop()
        bench.undo()
        self.assertEqual(bench.pop(), 1)
        bench.undo()
        bench.tell(TRUE)
        self.check(bench, [A, B, C, TRUE], [1, 3])
        bench.undo()
        self.assertEqual(bench.undo(), "tell")
        self.check(bench, [A, B], [1, 1])

    def test_what_raised_an_error_is_not_taken_back(self):
        bench = told("[x <= 1]")
        self.check_error("first level", bench.pop)
        with self.assertRaises(FormulaError):
            bench.tell(NINE_ROWS)
        self.assertEqual(bench.undo(), "tell")
        self.assertIs(bench.undo(), False)

    def test_ask_and_grounds_are_not_taken_back(self):
        bench = told("[x <= 1]")
        bench.ask(A)
        bench.grounds(A)
        self.assertEqual(bench.log, [("tell", A)])
        self.assertEqual([bench.undo(), bench.undo()], ["tell", False])

    def test_a_tell_that_leaves_no_point(self):
        bench = told("[x <= 1]")
        self.assertIs(bench.tell(row_of("x > 1")), False)
        self.assertEqual(bench.undo(), "tell")
        self.assertIs(bench.tell(B), True)


class Equal(Checks):
    def test_equal(self):
        for text in ("", "[x <= 1]", "[x <= 1]; [y < 2]", "[x <= 1] | [y < 2]", "| |"):
            self.assertIs(told(text) == told(text), True)
            self.assertIs(told(text) != told(text), False)

    def test_not_equal(self):
        texts = ("", "[x <= 1]", "[y < 2]", "[x <= 1]; [y < 2]", "[y < 2]; [x <= 1]", "[x <= 1] | [y < 2]",
                 "| [x <= 1]; [y < 2]", "[x <= 1]; [y < 2] |", "[x <= 1]; [y < 2] | |", "[x <= 1]; [x <= 1]",
                 "not not [x <= 1]", "|", "| |")
        for k, first in enumerate(texts):
            for m, second in enumerate(texts):
                self.assertIs(told(first) == told(second), k == m, (first, second))
                self.assertIs(told(first) != told(second), k != m)

    def test_what_was_done_does_not_count(self):
        bench = told("[x <= 1] | [y < 2]")
        bench.pop()
        self.assertEqual(bench, told("[x <= 1]"))
        self.assertNotEqual(bench.log, told("[x <= 1]").log)
        bench.tell(B)
        bench.undo()
        self.assertEqual(bench, told("[x <= 1]"))

    def test_other_values(self):
        bench = told("[x <= 1]")
        for value in (None, 0, "", [], (), [A], (A,), bench.facts, bench.log, Bench):
            self.assertIs(bench.__eq__(value), NotImplemented)
            self.assertIs(bench.__ne__(value), NotImplemented)
            self.assertIs(bench == value, False)
            self.assertIs(bench != value, True)
            self.assertIs(value == bench, False)

    def test_no_hash(self):
        for bench in (Bench(), told("[x <= 1]")):
            with self.assertRaises(TypeError):
                hash(bench)


class Log(Checks):
    def test_what_was_done(self):
        bench = told("[x <= 1] | [y < 2]; true |")
        bench.pop()
        self.assertEqual(bench.log, [("tell", A), ("push",), ("tell", B), ("tell", TRUE), ("push",), ("pop",)])

    def test_not_what_was_taken_back(self):
        bench = told("[x <= 1] | [y < 2]")
        bench.pop()
        bench.undo()
        self.assertEqual(bench.log, [("tell", A), ("push",), ("tell", B)])
        bench.undo()
        self.assertEqual(bench.log, [("tell", A), ("push",)])
        bench.undo()
        bench.undo()
        self.assertEqual(bench.log, [])
        bench.undo()
        self.assertEqual(bench.log, [])

    def test_replayed(self):
        for text in ("", "[x <= 1]", "[x <= 1]; [x > 1] | [y < 2] | true"):
            bench = told(text)
            for _ in range(len(bench.levels) - 1):
                bench.pop()
                bench.tell(C)
            found = replayed(bench.log)
            self.assertIs(type(found), Bench)
            self.assertEqual(found, bench)
            self.assertEqual(state(found), state(bench))
            self.assertEqual(found.log, bench.log)

    def test_the_log_that_is_passed(self):
        log = [("tell", A), ("push",), ("tell", B), ("pop",)]
        before = deepcopy(log)
        bench = replayed(log)
        self.assertEqual(log, before)
        bench.tell(C)
        bench.log.clear()
        self.assertEqual(log, before)
        log.clear()
        self.assertEqual(bench.log, before + [("tell", C)])

    def test_an_empty_log(self):
        self.assertEqual(replayed([]), Bench())
        self.assertIs(replayed([]).undo(), False)

    def test_wrong_logs(self):
        self.check_error("first level", replayed, [("pop",)])
        self.check_error("first level", replayed, [("tell", A), ("push",), ("pop",), ("pop",), ("tell", NINE_ROWS)])
        self.check_error("too many levels", replayed, [("push",)] * 8 + [("pop",)] * 9)
        self.check_error("too many facts", replayed, [("tell", TRUE)] * 13 + [("pop",)])
        self.check_error("too many facts", replayed, [("tell", TRUE)] * 12 + [("tell", NINE_ROWS)])
        for log in ([("tell", A), ("tell", NINE_ROWS), ("pop",)], [("push",), ("tell", ("or", (NINE_ROWS, A)))] * 2):
            with self.assertRaises(FormulaError) as caught:
                replayed(log)
            self.assertEqual((caught.exception.place, caught.exception.what), (0, "too many rows"))

    def test_the_most(self):
        self.assertEqual(len(replayed([("tell", TRUE)] * 12)), 12)
        self.assertEqual(replayed([("push",)] * 7).levels, [0] * 8)
        self.assertEqual(replayed([("push",), ("pop",)] * 50).levels, [0])


class Branch(Checks):
    def test_like_the_bench(self):
        bench = told("[x <= 1] | [y < 2]; true |")
        bench.pop()
        other = bench.branch()
        self.assertIs(type(other), Bench)
        self.assertIsNot(other, bench)
        self.assertEqual(other, bench)
        self.assertEqual(state(other), state(bench))

    def test_neither_is_changed_by_the_other(self):
        bench = told("[x <= 1] | [y < 2]")
        before = state(bench)
        other = bench.branch()
        other.tell(C)
        other.push()
        other.pop()
        other.pop()
        self.assertEqual(state(bench), before)
        other = bench.branch()
        while other.undo():
            pass
        self.assertEqual(state(bench), before)
        other = bench.branch()
        bench.pop()
        bench.tell(C)
        bench.push()
        self.assertEqual(state(other), before)
        while bench.undo():
            pass
        self.assertEqual(state(other), before)
        self.check(other, [A, B], [1, 1])

    def test_of_a_branch(self):
        bench = told("[x <= 1]")
        first = bench.branch()
        second = first.branch()
        first.tell(B)
        second.tell(C)
        self.check(bench, [A], [1])
        self.check(first, [A, B], [2])
        self.check(second, [A, C], [2])
        self.assertEqual([second.undo(), second.undo(), second.undo()], ["tell", "tell", False])

    def test_two_benches(self):
        first, second = Bench(), Bench()
        first.tell(A)
        first.push()
        self.check(second, [], [0])
        self.assertEqual(second.log, [])


class Many(Checks):
    def test_against_a_plain_bench(self):
        chosen = random.Random(162)
        for _ in range(30):
            bench, levels, done = Bench(), [[]], []
            for formula in some_formulas(chosen.random(), 40, depth=1, names="x"):
                levels, done = self.do_one(chosen.choice("tttppqu"), bench, formula, levels, done)
                self.check(bench, sum(levels, []), [len(level) for level in levels])
                self.assertEqual(bench.log, [entry for entry, _ in done])
                self.assertEqual(replayed(bench.log), bench)

    def do_one(self, word, bench, formula, levels, done):
        """Do one thing on a bench, and on its levels and what was done; return these."""
        if word == "u":
            self.assertEqual(bench.undo(), done[-1][0][0] if done else False)
            return (done[-1][1], done[:-1]) if done else (levels, done)
        count = sum(len(level) for level in levels)
        if word == "t":
            if count == 12:
                self.check_error("too many facts", bench.tell, formula)
                return levels, done
            try:
                decide(sum(levels, []) + [formula])
            except FormulaError:
                self.assertRaises(FormulaError, bench.tell, formula)
                return levels, done
            bench.tell(formula)
            return levels[:-1] + [levels[-1] + [formula]], done + [(("tell", formula), levels)]
        if word == "p":
            if len(levels) == 8:
                self.check_error("too many levels", bench.push)
                return levels, done
            self.assertEqual(bench.push(), len(levels) + 1)
            return levels + [[]], done + [(("push",), levels)]
        if len(levels) == 1:
            self.check_error("first level", bench.pop)
            return levels, done
        self.assertEqual(bench.pop(), len(levels) - 1)
        return levels[:-1], done + [(("pop",), levels)]


if __name__ == "__main__":
    unittest.main()
