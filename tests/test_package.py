"""What holds for the whole package: its interface, and what [2] and ../shared/LANGUAGE.md keep it from."""

import ast
import builtins
import doctest
import importlib
import inspect
import os
import unittest

ROOT = os.path.dirname(os.path.dirname(os.path.abspath(__file__)))
PACKAGE = os.path.join(ROOT, "linpapers")

# For each module of the interface its functions and classes, with their arguments.
INTERFACE = {
    "errors": {
        "LinpapersError": None, "NumberError": [], "NoPoints": [], "TextError": ["place", "what"],
        "LineError": ["line", "place", "what"], "FormulaError": ["place", "what"], "BenchError": ["what"]},
    "numbers": {
        "number": ["top", "bottom"], "plus": ["first", "second"], "minus": ["first", "second"],
        "times": ["first", "second"], "over": ["first", "second"], "compare": ["first", "second"],
        "simplest_between": ["lower", "lower_in", "upper", "upper_in"]},
    "rows": {
        "term": ["pairs", "constant"], "row": ["pairs", "sign", "bound"], "normal": ["some_row"],
        "unknowns": ["system"], "value": ["some_term", "point"], "holds": ["some_row", "point"],
        "is_point": ["system", "point"], "opposites": ["some_row"]},
    "rowtext": {
        "format_row": ["some_row"], "format_system": ["system"], "read_row": ["text"], "read_system": ["text"]},
    "papers": {
        "sum_of": ["system", "paper"], "is_paper": ["system", "paper"], "refutes": ["system", "paper"],
        "shows": ["system", "paper", "some_row"]},
    "elimination": {"derived": ["system"], "cleaned": ["rows"], "eliminated": ["rows", "unknown"]},
    "systems": {"solve": ["system"], "has_points": ["system"], "core": ["system"]},
    "ranges": {
        "range_of": ["system", "some_term"], "upper_paper": ["system", "some_term"],
        "lower_paper": ["system", "some_term"], "upper_ray": ["system", "some_term"],
        "lower_ray": ["system", "some_term"]},
    "consequences": {
        "follows": ["system", "some_row"], "papers_of": ["system", "some_row"], "needed": ["system"],
        "are_alike": ["system", "other"], "telling_point": ["system", "other"]},
    "projections": {"projection": ["system", "names"], "lifted": ["system", "names", "point"]},
    "formulas": {
        "is_true": ["formula", "point"], "plain": ["formula"], "unknowns_of": ["formula"],
        "format_formula": ["formula"], "read_formula": ["text"]},
    "proofs": {
        "decide": ["formulas"], "follows": ["formulas", "formula"], "flaw_of_proof": ["formulas", "proof"]},
    "interpolants": {"interpolant": ["first", "second"], "share": ["first", "second"]},
    "wholes": {
        "rounded": ["some_row"], "decide_whole": ["box", "rows"], "flaw_of_whole": ["box", "rows", "proof"]},
    "benches": {"Bench": [], "replayed": ["log"]},
    "courts": {"answer": ["question"], "judge": ["claim"], "judge_all": ["claims"]},
}

LIMITS = {
    "ROWS": 8, "UNKNOWNS": 4, "DIGITS": 6, "LETTERS": 8, "PARTS": 8, "FORMULAS": 40, "DEPTH": 12, "STEPS": 300,
    "BOX": 3, "SIDE": 20, "FACTS": 12, "LEVELS": 8}

# The methods of a Bench, with their arguments, and its properties.
BENCH = {
    "tell": ["self", "formula"], "push": ["self"], "pop": ["self"], "ask": ["self", "formula"],
    "grounds": ["self", "formula"], "undo": ["self"], "branch": ["self"], "__init__": ["self"], "__len__": ["self"],
    "__iter__": ["self"], "__contains__": None, "__eq__": ["self", "other"]}
PROPERTIES = ["facts", "levels", "log"]

LIBRARY = {
    "math": {"gcd", "lcm", "isqrt", "comb", "perm", "factorial"},
    "heapq": {"heappush", "heappop", "heapify", "heapreplace", "heappushpop"},
    "itertools": {"product", "combinations", "permutations", "chain", "accumulate", "pairwise", "islice",
                  "zip_longest"},
    "collections": {"defaultdict", "deque"},
}

BUILTINS = set(
    "len range enumerate zip min max sum abs sorted reversed int str bool bytes list tuple dict set frozenset "
    "isinstance ord repr any all divmod pow getattr hasattr setattr iter next map type super property "
    "staticmethod classmethod Exception ValueError TypeError KeyError IndexError LookupError ZeroDivisionError "
    "ArithmeticError OverflowError RuntimeError NotImplementedError AttributeError StopIteration "
    "NotImplemented object".split())


def files():
    """Return the paths of all files of the package."""
    return sorted(os.path.join(folder, name) for folder, _, names in os.walk(PACKAGE) for name in names
                  if not folder.endswith("__pycache__"))


def text_of(path):
    with open(path, encoding="utf-8", newline="") as file:
        return file.read()


class Interface(unittest.TestCase):
    def test_defined_in_the_file_of_its_heading(self):
        for module in INTERFACE:
            tree = ast.parse(text_of(os.path.join(PACKAGE, module + ".py")))
            defined = [node.name for node in tree.body if isinstance(node, (ast.FunctionDef, ast.ClassDef))]
            for name in INTERFACE[module]:
                self.assertEqual(defined.count(name), 1, (module, name))

    def test_arguments(self):
        for module in INTERFACE:
            found = importlib.import_module("linpapers." + module)
            for name, arguments in INTERFACE[module].items():
                if arguments:
                    self.assertEqual(list(inspect.signature(getattr(found, name)).parameters), arguments, name)
                self.assertEqual(getattr(found, name).__module__, "linpapers." + module)

    def test_limits(self):
        found = importlib.import_module("linpapers.limits")
        self.assertEqual({name: getattr(found, name) for name in LIMITS}, LIMITS)

    def test_all_modules(self):
        modules = [os.path.basename(path)[:-3] for path in files()]
        self.assertEqual(set(modules) - set(INTERFACE), {"__init__", "limits", "pairs", "steps"})

    def test_methods_of_a_bench(self):
        found = importlib.import_module("linpapers.benches").Bench
        for name, arguments in BENCH.items():
            self.assertIn(name, vars(found))
            if arguments is not None:
                self.assertEqual(list(inspect.signature(vars(found)[name]).parameters), arguments, name)
        for name in PROPERTIES:
            self.assertIsInstance(vars(found)[name], property)
            self.assertIsNone(vars(found)[name].fset)
        self.assertIsNone(found.__hash__)


class Form(unittest.TestCase):
    def test_only_python_files(self):
        self.assertTrue(files())
        for path in files():
            self.assertTrue(path.endswith(".py"), path)

    def test_lines(self):
        for path in files():
            text = text_of(path)
            self.assertTrue(all(char == "\n" or " " <= char <= "~" for char in text), path)
            lines = text.splitlines()
            self.assertLessEqual(len(lines), 399, path)
            for place, line in enumerate(lines, start=1):
                self.assertLessEqual(len(line), 120, (path, place))

    def test_functions(self):
        for path in files():
            for node in ast.walk(ast.parse(text_of(path))):
                if isinstance(node, ast.FunctionDef):
                    self.assertLessEqual(node.end_lineno - node.lineno + 1, 40, (path, node.name))

    def test_imports(self):
        for path in files():
            for node in ast.walk(ast.parse(text_of(path))):
                self.assertNotIsInstance(node, ast.Import, path)
                if isinstance(node, ast.ImportFrom):
                    self.check_import(path, node)

    def check_import(self, path, node):
        names = {alias.name for alias in node.names}
        self.assertEqual(node.level, 0, path)
        if node.module in LIBRARY:
            self.assertLessEqual(names, LIBRARY[node.module], path)
        else:
            self.assertTrue(node.module.startswith("linpapers."), (path, node.module))
            self.assertNotIn("*", names, path)

    def test_builtins(self):
        for path in files():
            for node in ast.walk(ast.parse(text_of(path))):
                if isinstance(node, ast.Name) and hasattr(builtins, node.id):
                    self.assertIn(node.id, BUILTINS, (path, node.lineno))


class Readme(unittest.TestCase):
    def test_examples(self):
        text = text_of(os.path.join(ROOT, "README.md")).replace("```", "")
        examples = doctest.DocTestParser().get_doctest(text, {}, "README.md", None, None)
        self.assertGreater(len(examples.examples), 20)
        self.assertEqual(doctest.DocTestRunner(verbose=False).run(examples).failed, 0)


if __name__ == "__main__":
    unittest.main()
