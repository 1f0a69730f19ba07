"""linpapers/rowtext.py: how rows and systems are written, and how they are read where nothing is wrong."""

import itertools
import unittest
from copy import deepcopy

from linpapers.rows import row
from linpapers.rowtext import format_row, format_system, read_row, read_system

X = ("x", (1, 1))
MINUS_X = ("x", (-1, 1))
ZERO = (0, 1)


def parts(*pairs):
    """Return parts with integers."""
    return tuple((name, (top, 1)) for name, top in pairs)


class FormatRow(unittest.TestCase):
    def check(self, some_parts, sign, bound, text):
        self.assertEqual(format_row((some_parts, sign, bound)), text)

    def test_the_example(self):
        self.check(parts(("x", 2), ("y", -1), ("z", 3)), "<=", (-1, 2), "2 x - y + 3 z <= -1/2")

    def test_no_parts(self):
        self.check((), "<=", (1, 1), "0 <= 1")
        self.check((), "<", (-1, 1), "0 < -1")
        self.check((), "=", ZERO, "0 = 0")

    def test_the_first_part(self):
        self.check(parts(("x", 1)), "<=", ZERO, "x <= 0")
        self.check(parts(("x", -1)), "<=", ZERO, "-x <= 0")
        self.check(parts(("x", 2), ("y", 1)), "<=", ZERO, "2 x + y <= 0")
        self.check(parts(("x", -2), ("y", 1)), "<=", ZERO, "-2 x + y <= 0")
        self.check(parts(("x", 11), ("y", 1)), "<=", ZERO, "11 x + y <= 0")
        self.check(parts(("x", -10), ("y", 1)), "<=", ZERO, "-10 x + y <= 0")

    def test_further_parts(self):
        self.check(parts(("x", 1), ("y", 1)), "<", ZERO, "x + y < 0")
        self.check(parts(("x", 1), ("y", -1)), "<", ZERO, "x - y < 0")
        self.check(parts(("x", 1), ("y", 7)), "<", ZERO, "x + 7 y < 0")
        self.check(parts(("x", 1), ("y", -7)), "<", ZERO, "x - 7 y < 0")
        self.check(parts(("x", -1), ("y", -1), ("z", 1), ("z1", -12)), "<", ZERO, "-x - y + z - 12 z1 < 0")

    def test_signs(self):
        for sign in ("<=", "<", "="):
            self.check(parts(("abcdefgh", 1)), sign, (2, 1), "abcdefgh " + sign + " 2")

    def test_bounds(self):
        for bound, text in (((3, 1), "3"), ((-3, 1), "-3"), ((1, 2), "1/2"), ((-17, 5), "-17/5"), (ZERO, "0"),
                            ((-1, 1), "-1"), ((1, 1), "1")):
            self.check(parts(("x", 1)), "<", bound, "x < " + text)

    def test_large(self):
        top = 10 ** 30 + 7
        self.check(parts(("x", top), ("y", -top)), "<=", (-top, top + 1),
                   f"{top} x - {top} y <= -{top}/{top + 1}")
        self.check(parts(("x", 10 ** 64), ("y", -(10 ** 200))), "<=", (10 ** 64 - 1, 10 ** 64),
                   f"1{'0' * 64} x - 1{'0' * 200} y <= {'9' * 64}/1{'0' * 64}")

    def test_thousands_of_digits(self):
        self.check(parts(("x", 10 ** 5000 + 3), ("y", 1)), "=", (-(10 ** 6000), 1),
                   f"1{'0' * 4999}3 x + y = -1{'0' * 6000}")


class FormatSystem(unittest.TestCase):
    def test_no_rows(self):
        self.assertEqual(format_system([]), "")

    def test_a_newline_behind_each(self):
        system = [(parts(("x", 1)), "<=", (1, 2)), ((), "<", (1, 1)), (parts(("x", -1), ("y", 2)), "=", (-3, 1))]
        before = deepcopy(system)
        self.assertEqual(format_system(system[:1]), "x <= 1/2\n")
        self.assertEqual(format_system(system), "x <= 1/2\n0 < 1\n-x + 2 y = -3\n")
        self.assertEqual(system, before)


class ReadRow(unittest.TestCase):
    def check(self, text, some_parts, sign, bound):
        self.assertEqual(read_row(text), (some_parts, sign, bound), text)

    def test_the_examples(self):
        self.assertEqual(format_row(read_row("1/2 x + 3 > y - 2/3 x")), "-7 x + 6 y < 18")
        self.assertEqual(read_row("2 >= 4"), ((), "<=", (-1, 1)))
        self.check("2 x - y + 3 z <= -1/2", parts(("x", 2), ("y", -1), ("z", 3)), "<=", (-1, 2))

    def test_signs(self):
        self.check("x <= 2", (X,), "<=", (2, 1))
        self.check("x < 2", (X,), "<", (2, 1))
        self.check("x = 2", (X,), "=", (2, 1))
        self.check("x >= 2", (MINUS_X,), "<=", (-2, 1))
        self.check("x > 2", (MINUS_X,), "<", (-2, 1))

    def test_unknowns_on_the_right(self):
        self.check("2 <= x", (MINUS_X,), "<=", (-2, 1))
        self.check("2 < x", (MINUS_X,), "<", (-2, 1))
        self.check("2 = x", (X,), "=", (2, 1))
        self.check("2 >= x", (X,), "<=", (2, 1))
        self.check("2 > x", (X,), "<", (2, 1))

    def test_numbers_alone(self):
        self.check("1 < 2", (), "<", (1, 1))
        self.check("2 < 1", (), "<", (-1, 1))
        self.check("2 = 1", (), "=", (1, 1))
        self.check("1 = 2", (), "=", (1, 1))
        self.check("0 <= 0", (), "<=", ZERO)
        self.check("1/2 + 1/3 >= 5/6", (), "<=", ZERO)
        self.check("1/2 + 1/3 > 4/6", (), "<", (1, 1))

    def test_numbers_on_both_sides(self):
        self.check("x + 3 <= 5", (X,), "<=", (2, 1))
        self.check("3 + x - 1 <= 5 - 4", (X,), "<=", (-1, 1))
        self.check("x - 3 <= - 5 - 1/2", (X,), "<=", (-5, 2))
        self.check("1 + 2 - 4 <= x - 1/2", (MINUS_X,), "<=", (1, 2))

    def test_the_same_unknown_on_both_sides(self):
        self.check("3 x <= x + 4", (X,), "<=", (2, 1))
        self.check("x + y <= x + 4", (("y", (1, 1)),), "<=", (4, 1))
        self.check("x <= x", (), "<=", ZERO)
        self.check("x < x - 2", (), "<", (-1, 1))
        self.check("x + x - 3 x < 5 + 1/2 x", (MINUS_X,), "<", (10, 3))

    def test_the_sign_ahead_of_each_item(self):
        self.check("a - b + c - d < 0", parts(("a", 1), ("b", -1), ("c", 1), ("d", -1)), "<", ZERO)
        self.check("0 < a - b + c - d", parts(("a", -1), ("b", 1), ("c", -1), ("d", 1)), "<", ZERO)
        self.check("5 - 2 a + 3 b < 0", parts(("a", -2), ("b", 3)), "<", (-5, 1))
        self.check("a + 5 - b < c - 2 + d", parts(("a", 1), ("b", -1), ("c", -1), ("d", -1)), "<", (-7, 1))

    def test_a_minus_in_front(self):
        self.check("-x <= 1", (MINUS_X,), "<=", (1, 1))
        self.check("- x <= - 1", (MINUS_X,), "<=", (-1, 1))
        self.check("-2 x + y <= -1/3", parts(("x", -2), ("y", 1)), "<=", (-1, 3))
        self.check("-3 - x <= -y", parts(("x", -1), ("y", 1)), "<=", (3, 1))
        self.check("1 <= -x + y", parts(("x", 1), ("y", -1)), "<=", (-1, 1))

    def test_fractions(self):
        self.check("1/2 x <= 3/4", (X,), "<=", (3, 2))
        self.check("2/4 x + 6/3 y <= 0/7", parts(("x", 1), ("y", 4)), "<=", ZERO)
        self.check("x = 999999/999998", (X,), "=", (999999, 999998))
        self.check("x = 123456/1", (X,), "=", (123456, 1))
        self.check("1/100000 x = 1", (X,), "=", (100000, 1))

    def test_the_number_zero(self):
        self.check("0 x <= 1", (), "<=", (1, 1))
        self.check("0x + y <= 0 y", (("y", (1, 1)),), "<=", ZERO)
        self.check("10 x <= 100", (X,), "<=", (10, 1))
        self.check("0/5 + x = 0", (X,), "=", ZERO)

    def test_the_longest_tokens(self):
        self.check("abcdefgh < a2345678", parts(("a2345678", -1), ("abcdefgh", 1)), "<", ZERO)
        self.check("999999x < 999999/999999y1", parts(("x", 999999), ("y1", -1)), "<", ZERO)
        self.check("x1y2 = z99", parts(("x1y2", 1), ("z99", -1)), "=", ZERO)

    def test_the_first_number_of_an_equality(self):
        self.check("y = 2 x + 1", parts(("x", 2), ("y", -1)), "=", (-1, 1))
        self.check("-x - 1 = y", parts(("x", 1), ("y", 1)), "=", (-1, 1))

    def test_spaces(self):
        found = parts(("x", 2), ("y", -3)), "<=", (1, 2)
        for text in ("2x-3y<=1/2", "2 x - 3 y <= 1/2", "  2 x-3y <=1/2   ", "2  x  -  3  y  <=  1/2", " 2x- 3y<= 1/2"):
            self.check(text, *found)
        for sign in ("<=", "<", "=", ">=", ">"):
            self.assertEqual(read_row("x" + sign + "1"), read_row("  x   " + sign + "  1 "))
            self.assertEqual(read_row("x" + sign + "-1"), read_row("x " + sign + " - 1"))

    def test_no_limit_of_unknowns(self):
        self.check("a + b + c + d + e + f <= 0", parts(*[(name, 1) for name in "abcdef"]), "<=", ZERO)

    def test_reading_what_is_written(self):
        tops = (-123456, -7, -1, 0, 1, 2)
        for some_tops in itertools.product(tops, repeat=3):
            pairs = [(name, (top, 1)) for name, top in zip(("a10", "a2", "zzzzzzzz"), some_tops)]
            for sign in ("<=", "<", "=", ">=", ">"):
                for bound in ((1, 2), ZERO, (-5, 1)):
                    some_row = row(pairs, sign, bound)
                    self.assertEqual(read_row(format_row(some_row)), some_row)


class ReadSystem(unittest.TestCase):
    def test_no_lines(self):
        self.assertEqual(read_system(""), [])

    def test_with_and_without_the_last_newline(self):
        system = [(parts(("x", 1)), "<=", (1, 1)), (parts(("x", -1), ("y", 1)), "<", ZERO)]
        self.assertEqual(read_system("x <= 1\ny < x\n"), system)
        self.assertEqual(read_system("x <= 1\ny < x"), system)
        self.assertEqual(read_system(" x<=1 \n  y <x"), system)
        self.assertEqual(read_system("x <= 1"), system[:1])
        self.assertEqual(read_system("x <= 1\n"), system[:1])

    def test_equal_lines_stay(self):
        self.assertEqual(read_system("x <= 1\n2 x <= 2\nx <= 1\n"), [((X,), "<=", (1, 1))] * 3)

    def test_exactly_the_limits(self):
        system = read_system("".join(f"a + b + c + d <= {k}\n" for k in range(8)))
        self.assertEqual(system, [(parts(*[(name, 1) for name in "abcd"]), "<=", (k, 1)) for k in range(8)])
        self.assertEqual(len(read_system("a < 1\n" * 7 + "b + c < d")), 8)

    def test_unknowns_that_come_to_nothing_are_not_counted(self):
        self.assertEqual(len(read_system("a + b + c + d <= 1\ne - e <= 1\n0 f < 2")), 3)

    def test_reading_what_is_written(self):
        system = read_system("x + y >= 3\nx < 1\n1 = 2\n0 <= 0\nz = 3 y - 1/2")
        self.assertEqual(len(system), 5)
        self.assertEqual(read_system(format_system(system)), system)

    def test_a_new_list(self):
        first = read_system("x <= 1")
        self.assertIs(type(first), list)
        first.clear()
        self.assertEqual(read_system("x <= 1"), [((X,), "<=", (1, 1))])


if __name__ == "__main__":
    unittest.main()
