"""What [1] and [2] promise over the whole program: nothing that is passed is modified, and all lists are new."""

import importlib
import subprocess
import sys
import unittest
from copy import deepcopy

from formulahelpers import formulas_of, row_of, rows_step
from helpers import paper_of, point_of, rows_of
from linpapers.benches import Bench
from linpapers.courts import answer
from linpapers.elimination import derived
from linpapers.formulas import read_formula
from test_package import INTERFACE, ROOT

POINT = point_of(x=1, y=2)
SYSTEM = rows_of("x + y <= 3; y >= 1; x > -2; x + y <= 4")
NO_POINTS = rows_of("x + y >= 3; x < 1; 2 y <= 4")
FORMULAS = formulas_of("not ([x <= 1] and not [y = 2]); [x < 1] and [y > 2]; true")
BOX = (("x", 0, 2), ("y", 0, 0))
LOG = [("tell", FORMULAS[0]), ("push",), ("tell", FORMULAS[1]), ("pop",)]
QUESTIONS = [("all true", FORMULAS), ("follows", FORMULAS[:1], FORMULAS[2]), ("apart", *FORMULAS[:2]),
             ("whole", BOX, rows_of("2 x + y = 1")), ("whole", BOX, rows_of("x > 1/2"))]
TERM = (point_of(x=2, y=-1), (1, 2))

# For each function of the interface lists of arguments.
CALLS = {
    "numbers": {
        "number": [(6, -4)], "plus": [((1, 2), (1, 3))], "minus": [((1, 2), (1, 3))], "times": [((1, 2), (2, 3))],
        "over": [((1, 2), (1, 3))], "compare": [((1, 2), (1, 3))],
        "simplest_between": [((1, 3), False, (1, 2), False), (None, True, None, True)]},
    "rows": {
        "term": [([("y", (1, 2)), ("x", (1, 1)), ("y", (1, 2))], (1, 1))],
        "row": [([("y", (2, 1)), ("x", (4, 1))], sign, (1, 1)) for sign in ("<=", "<", "=", ">=", ">")],
        "normal": [((point_of(x=4, y=2), "<=", (1, 1)),)], "unknowns": [(SYSTEM,), ([],)],
        "value": [(TERM, POINT)], "holds": [(SYSTEM[0], POINT)], "is_point": [(SYSTEM, POINT)],
        "opposites": [(SYSTEM[0],), (rows_of("x = 1")[0],)]},
    "rowtext": {
        "format_row": [(SYSTEM[0],)], "format_system": [(SYSTEM,)], "read_row": [("x <= 1",)],
        "read_system": [("x <= 1\ny < 2\n",), ("",)]},
    "papers": {
        "sum_of": [(SYSTEM, paper_of((0, 1), (1, 2)))], "is_paper": [(SYSTEM, paper_of((0, 1), (1, 2)))],
        "refutes": [(NO_POINTS, paper_of((0, 1), (1, 1), (2, 1)))],
        "shows": [(SYSTEM, paper_of((0, 1), (1, 1)), rows_of("x <= 2")[0])]},
    "elimination": {
        "derived": [(SYSTEM,), ([],)], "cleaned": [(derived(SYSTEM),), (derived([]),)],
        "eliminated": [(derived(SYSTEM), "y"), (derived(SYSTEM), "z"), (derived(rows_of("x = y; y <= 1")), "y")]},
    "systems": {
        "solve": [(SYSTEM,), (NO_POINTS,)], "has_points": [(SYSTEM,), (NO_POINTS,)], "core": [(SYSTEM,), (NO_POINTS,)]},
    "ranges": {name: [(SYSTEM, TERM), (SYSTEM, (point_of(x=1, y=1), (0, 1)))]
               for name in ("range_of", "upper_paper", "lower_paper", "upper_ray", "lower_ray")},
    "consequences": {
        "follows": [(SYSTEM, rows_of("x <= 2")[0])], "papers_of": [(SYSTEM, rows_of("x <= 2")[0])],
        "needed": [(SYSTEM,), (NO_POINTS,)], "are_alike": [(SYSTEM, NO_POINTS), (SYSTEM, SYSTEM[:3])],
        "telling_point": [(SYSTEM, NO_POINTS), (SYSTEM, SYSTEM[:3])]},
    "projections": {
        "projection": [(SYSTEM, ["y"]), (SYSTEM, ["y", "x"]), (SYSTEM, []), (NO_POINTS, ["z", "x"])],
        "lifted": [(SYSTEM, ["y", "x"], POINT), (SYSTEM, [], POINT), (NO_POINTS, ["y"], ())]},
    "formulas": {
        "is_true": [(FORMULAS[0], POINT)], "plain": [(FORMULAS[0],)], "unknowns_of": [(FORMULAS[0],), (FORMULAS[2],)],
        "format_formula": [(FORMULAS[0],)], "read_formula": [("not [x <= 1] or (true and [y < 2])",)]},
    "proofs": {
        "decide": [(FORMULAS,), (FORMULAS[:1],), ([],)], "follows": [(FORMULAS, FORMULAS[0]), ([], FORMULAS[0])],
        "flaw_of_proof": [(FORMULAS, ("and", 1, rows_step((0, 1)))), ([], rows_step())]},
    "interpolants": {
        "interpolant": [tuple(FORMULAS[:2]), tuple(FORMULAS[1:])],
        "share": [(NO_POINTS[:2], NO_POINTS[2:]), (SYSTEM, []), ([], NO_POINTS)]},
    "wholes": {
        "rounded": [(rows_of("x < 1/2")[0],)],
        "decide_whole": [(BOX, rows_of("2 x + y = 1")), (BOX, []), (BOX, rows_of("x = 1/2"))],
        "flaw_of_whole": [(BOX, rows_of("2 x + y = 1"), ("split", "x", 0, rows_step((0, 1)), ("never", 0)))]},
    "benches": {"Bench": [()], "replayed": [(LOG,), ([],)]},
    "courts": {
        "answer": [(question,) for question in QUESTIONS], "judge": [(answer(question),) for question in QUESTIONS],
        "judge_all": [([answer(question) for question in QUESTIONS],), ([(QUESTIONS[0], "maybe", ())],)]},
}


def functions():
    """Return the functions of the interface with lists of arguments."""
    for module, calls in CALLS.items():
        for name, many in calls.items():
            function = getattr(importlib.import_module("linpapers." + module), name)
            for arguments in many:
                yield function, arguments


class Functions(unittest.TestCase):
    def test_all_are_called(self):
        for module, names in INTERFACE.items():
            if module != "errors":
                self.assertEqual(set(CALLS[module]), set(names))

    def test_nothing_that_is_passed_is_modified(self):
        for function, arguments in functions():
            before = deepcopy(arguments)
            function(*arguments)
            self.assertEqual(arguments, before, function)

    def test_the_same_again(self):
        for function, arguments in functions():
            first = deepcopy(function(*arguments))
            self.assertEqual(function(*deepcopy(arguments)), first, function)

    def test_lists_that_are_returned_are_new(self):
        count = 0
        for function, arguments in functions():
            result = function(*arguments)
            if type(result) is not list:
                continue
            count += 1
            before = deepcopy(result)
            self.assertFalse(any(result is argument for argument in arguments), function)
            result.reverse()
            result.append(None)
            del result[0]
            self.assertEqual(function(*arguments), before, function)
            result.clear()
            self.assertEqual(function(*arguments), before, function)
        self.assertGreater(count, 20)

    def test_only_the_lists_that_are_told_are_lists(self):
        for function, arguments in functions():
            result = function(*arguments)
            if function is not answer:
                self.assertFalse(self.has_list(result if type(result) is not list else tuple(result)), function)
            else:
                self.assertFalse(self.has_list(result[1:]))

    def has_list(self, value):
        return type(value) in (list, dict, set) or (
            type(value) is tuple and any(self.has_list(part) for part in value))


class Benches(unittest.TestCase):
    def test_lists_of_a_bench(self):
        bench = Bench()
        bench.tell(FORMULAS[0])
        bench.push()
        bench.tell(row_of("x <= 1"))
        for name in ("facts", "levels", "log"):
            before = deepcopy(getattr(bench, name))
            found = getattr(bench, name)
            found.append(None)
            self.assertEqual(getattr(bench, name), before)
            getattr(bench, name).clear()
            self.assertEqual(getattr(bench, name), before)
            self.assertEqual(getattr(bench.branch(), name), before)
        self.assertEqual((len(bench), bench.levels), (2, [1, 1]))
        self.assertEqual(bench.undo(), "tell")
        self.assertEqual(bench.facts, FORMULAS[:1])

    def test_one_bench_and_another(self):
        benches = [Bench() for _ in range(3)]
        benches[1].tell(read_formula("[x <= 1]"))
        self.assertEqual([len(bench) for bench in benches], [0, 1, 0])
        self.assertEqual(benches[0].log, [])


class Imports(unittest.TestCase):
    def test_each_module_alone(self):
        for module in list(INTERFACE) + ["limits"]:
            found = subprocess.run([sys.executable, "-c", f"import linpapers.{module}"], cwd=ROOT, check=False)
            self.assertEqual(found.returncode, 0, module)


if __name__ == "__main__":
    unittest.main()
