"""linpapers/errors.py: the kinds of errors, and their attributes."""

import unittest

from linpapers.errors import (
    BenchError, FormulaError, LineError, LinpapersError, NoPoints, NumberError, TextError)

KINDS = [NumberError, NoPoints, TextError, LineError, FormulaError, BenchError]

# Each class with the values that it is created with, and its attributes in their order.
CREATED = [
    (NumberError, (), ()),
    (NoPoints, (), ()),
    (TextError, (3, "not a token"), ("place", "what")),
    (LineError, (2, 5, "not finished"), ("line", "place", "what")),
    (FormulaError, (7, "too deep"), ("place", "what")),
    (BenchError, ("first level",), ("what",)),
]


class Kinds(unittest.TestCase):
    def test_base_class_is_a_value_error(self):
        self.assertTrue(issubclass(LinpapersError, ValueError))

    def test_each_is_a_linpapers_error(self):
        for kind in KINDS:
            self.assertTrue(issubclass(kind, LinpapersError), kind)
            self.assertIsNot(kind, LinpapersError)

    def test_none_is_a_base_class_of_another(self):
        for kind in KINDS:
            self.assertEqual([other for other in KINDS if issubclass(other, kind)], [kind])

    def test_caught_by_the_base_classes(self):
        for kind, values, _ in CREATED:
            for base in (kind, LinpapersError, ValueError):
                with self.assertRaises(base):
                    raise kind(*values)


class Attributes(unittest.TestCase):
    def test_all_kinds_are_covered(self):
        self.assertEqual([kind for kind, _, _ in CREATED], KINDS)

    def test_created_with_the_values_in_order(self):
        for kind, values, names in CREATED:
            error = kind(*values)
            self.assertEqual(tuple(getattr(error, name) for name in names), values, kind)

    def test_the_attributes_are_those_of_the_object_alone(self):
        for kind, values, names in CREATED:
            self.assertEqual(vars(kind(*values)), dict(zip(names, values)))
            for name in names:
                self.assertFalse(hasattr(kind, name), (kind, name))

    def test_two_errors_have_their_own_values(self):
        first, second = LineError(1, 0, "a"), LineError(9, 4, "b")
        self.assertEqual((first.line, first.place, first.what), (1, 0, "a"))
        self.assertEqual((second.line, second.place, second.what), (9, 4, "b"))

    def test_too_few_values(self):
        for kind, values, _ in CREATED:
            if values:
                with self.assertRaises(TypeError):
                    kind(*values[1:])


if __name__ == "__main__":
    unittest.main()
