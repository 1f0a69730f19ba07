"""linpapers/systems.py: the told point or the refutation of a system, and its core."""

import itertools
import signal
import unittest
from copy import deepcopy
from fractions import Fraction
from math import gcd

from helpers import all_true_at, is_refuted, pair, paper_of, plain_solve, point_of, rows_of, some_systems
from linpapers.papers import refutes
from linpapers.rows import row
from linpapers.rowtext import read_system
from linpapers.systems import core, has_points, solve

HALF = Fraction(1, 2)
BIG = 10 ** 25 + 13

# All systems of up to three of these, in order.
POOL = rows_of("x <= 1; x > 0; x - y <= 0; x + 2 y < 1; y >= 1; y = 0; 2 x = 1; x + y = 1; 0 <= 1; 0 < 0; -y < -1/2")
SMALL = [list(system) for many in range(4) for system in itertools.product(POOL, repeat=many)]


class Checks(unittest.TestCase):
    def check_point(self, text, **numbers):
        found = ("point", point_of(**numbers))
        self.assertEqual(solve(rows_of(text)), found, text)
        self.assertIs(has_points(rows_of(text)), True)

    def check_paper(self, text, *pairs):
        found = ("paper", paper_of(*pairs))
        self.assertEqual(solve(rows_of(text)), found, text)
        self.assertIs(has_points(rows_of(text)), False)

    def check_told(self, system):
        """Check what solve tells; return the word."""
        word, found = solve(system)
        if word == "point":
            self.assertTrue(all_true_at(system, found), system)
            self.assertEqual([name for name, _ in found], sorted({name for parts, _, _ in system for name, _ in parts}))
        else:
            self.assertEqual(word, "paper")
            self.assertTrue(is_refuted(system, found), system)
            self.assertIs(refutes(system, found), True)
            self.assertTrue(all(bottom == 1 for _, (_, bottom) in found), found)
            self.assertEqual(gcd(*[top for _, (top, _) in found]), 1, found)
        self.assertIs(has_points(system), word == "point")
        return word


class Points(Checks):
    def test_the_example(self):
        self.assertEqual(solve(read_system("x + y >= 3\nx < 1\ny <= 5/2\n")),
                         ("point", (("x", (1, 2)), ("y", (5, 2)))))

    def test_without_rows(self):
        self.assertEqual(solve([]), ("point", ()))
        self.check_point("")

    def test_rows_without_parts_that_hold(self):
        self.check_point("0 <= 1")
        self.check_point("0 = 0; 0 <= 0; 0 < 1")
        self.check_point("0 = 0; x >= 2; 0 < 1", x=2)

    def test_one_unknown(self):
        self.check_point("x <= 3", x=0)
        self.check_point("x >= 3", x=3)
        self.check_point("x > 3", x=4)
        self.check_point("x < 0", x=-1)
        self.check_point("x < -5/2", x=-3)
        self.check_point("x > 1/3; x < 1/2", x=Fraction(2, 5))
        self.check_point("x >= 1/3; x < 1/2", x=Fraction(1, 3))
        self.check_point("x > 1/3; x <= 1/2", x=HALF)
        self.check_point("x >= 5/2; x <= 7/2", x=3)
        self.check_point("x >= -7/2; x <= -5/2", x=-3)
        self.check_point("3 x = 7", x=Fraction(7, 3))
        self.check_point("x = 2; x <= 2; x >= 2", x=2)

    def test_the_closest_bound_counts(self):
        self.check_point("x >= 2; x > 2; 2 x >= 4", x=3)
        self.check_point("x > 2; x >= 2", x=3)
        self.check_point("x >= 1; x >= 4; x >= 2", x=4)
        self.check_point("x <= -1; x <= -4; x <= -2", x=-4)
        self.check_point("x <= -4; x < -4", x=-5)

    def test_the_last_unknown_gets_its_number_first(self):
        self.check_point("x + y = 5", x=5, y=0)
        self.check_point("x + y >= 5; x <= 2", x=2, y=3)
        self.check_point("x + y + z >= 6; x <= 1; y <= 2", x=1, y=2, z=3)
        self.check_point("x - y > 0; y - z > 0", x=2, y=1, z=0)
        self.check_point("x >= y; y >= 1/2", x=1, y=1)
        self.check_point("a10 + a2 = 1", a10=1, a2=0)
        self.check_point("x <= y; x >= y; 3 y >= 2", x=1, y=1)

    def test_the_simplest_number_of_what_is_left(self):
        self.check_point("y > 1/3; y < 1/2; x = 2 y", x=Fraction(4, 5), y=Fraction(2, 5))
        self.check_point("x > 1/3; x < 1/2; y = 2 x", x=HALF - Fraction(1, 8), y=Fraction(3, 4))
        self.check_point("x + y > 1; 2 x + 2 y < 3; y >= 1/3; y <= 2/3", x=Fraction(2, 3), y=HALF)

    def test_unknowns_that_drop_out(self):
        self.check_point("x + y <= 1", x=0, y=0)
        self.check_point("x + y = 1; z > y", x=2, y=-1, z=0)
        self.check_point("x = y; 0 <= 0", x=0, y=0)
        self.check_point("x - y < 0; z <= -1", x=-1, y=0, z=-1)

    def test_equalities_alone(self):
        self.check_point("x + y = 3; x - y = 1", x=2, y=1)
        self.check_point("x + y + z = 6; x - y = 1; y + 2 z = 5", x=Fraction(8, 3), y=Fraction(5, 3), z=Fraction(5, 3))
        self.check_point("x + y = 3; 2 x + 2 y = 6", x=3, y=0)
        self.check_point("2 x + 3 y = 1; 4 x - y = 9", x=2, y=-1)

    def test_strict_rows(self):
        self.check_point("x > 0; x < y; y < 1", x=Fraction(1, 3), y=HALF)
        self.check_point("x + y < 0; x > 0", x=HALF, y=-1)
        self.check_point("x < y; y < z; z < 0", x=-3, y=-2, z=-1)

    def test_large(self):
        system = [row([("x", (BIG, 1)), ("y", (1, 1))], "=", (0, 1)), row([("y", (1, 1))], ">=", (1, BIG))]
        self.assertEqual(solve(system), ("point", point_of(x=Fraction(-1, BIG), y=1)))


class Papers(Checks):
    def test_the_example(self):
        self.assertEqual(solve(read_system("x + y >= 3\nx < 1\n2 y <= 4\n")),
                         ("paper", ((0, (1, 1)), (1, (1, 1)), (2, (1, 1)))))

    def test_a_row_of_the_system(self):
        self.check_paper("0 <= -1", (0, 1))
        self.check_paper("0 < 0", (0, 1))
        self.check_paper("0 = 1", (0, 1))
        self.check_paper("x < 0; x > 0; 0 < 0", (2, 1))
        self.check_paper("x <= 1; 0 <= 1; 0 <= -1; 0 < 0", (2, 1))

    def test_the_first_such_row(self):
        self.check_paper("0 < 0; 0 <= -1", (1, 1))
        self.check_paper("0 = 1; 0 <= -1", (0, 1))
        self.check_paper("0 <= -1; 0 = 1", (0, 1))
        self.check_paper("x <= 0; x >= 0; x < -1; x > 1; y < 0; y > 0", (2, 1), (3, 1))
        self.check_paper("x < 0; y < 0; x > 0; y > 0", (0, 1), (2, 1))
        self.check_paper("x + y = 1; x + y = 2; x + y = 3", (0, -1), (1, 1))
        self.check_paper("x = 1; x <= 0; x = 2", (0, -1), (1, 1))

    def test_as_soon_as_there_is_one(self):
        # The rows about the last unknown would refute the system, too, but in a later list.
        self.check_paper("y < 0; y > 0; x <= y; x >= y + 1", (2, 1), (3, 1))
        self.check_paper("y <= 1; y >= 2; x + y <= 0; x + y >= 1", (2, 1), (3, 1))
        self.check_paper("z < 0; z > 0; y < z; y > z; x = 0", (2, 1), (3, 1))
        self.check_paper("b < 0; b > 0; a10 = 0; a2 < 0; a2 > 0; c < 0; c > 0", (3, 1), (4, 1))

    def test_integers_without_a_common_divisor(self):
        self.check_paper("2 x + y <= 1; 3 x + y >= 5; y >= 0", (0, 3), (1, 2), (2, 1))
        self.check_paper("2 x - y <= 0; 2 x - y >= 2", (0, 1), (1, 1))
        self.check_paper("2 x + 5 y = 1; 3 x + 5 y >= 2; 6 x <= 5; y <= -1/7", (0, 1), (1, 1), (2, 1))
        self.check_paper("2 x + y = 4; 2 x + 3 y <= 6; y > 1", (0, -1), (1, 1), (2, 2))
        self.check_paper("6 x + y = 1; 10 x + y = 4; 15 x + y >= 9; z < 0", (0, -5), (1, 9), (2, 4))

    def test_equalities_alone(self):
        self.check_paper("x = 1; x = 2", (0, -1), (1, 1))
        self.check_paper("x = 2; x = 1", (0, 1), (1, -1))
        self.check_paper("x + y = 3; x - y = 1; x = 1", (0, 1), (1, 1), (2, -2))
        self.check_paper("x + y = 3; y + z = 1; x - z = 1", (0, 1), (1, -1), (2, -1))

    def test_strict_rows(self):
        self.check_paper("x < 0; x > 0", (0, 1), (1, 1))
        self.check_paper("x <= 0; x > 0", (0, 1), (1, 1))
        self.check_paper("x < y; y < z; z < x", (0, 1), (1, 1), (2, 1))
        self.check_paper("x <= y; y <= z; z < x", (0, 1), (1, 1), (2, 1))
        self.check_paper("x = y; x < y", (0, -1), (1, 1))

    def test_large(self):
        system = [row([("x", (BIG, 1)), ("y", (1, 1))], "<=", (0, 1)), row([("x", (BIG + 1, 1))], ">", (0, 1)),
                  row([("y", (1, 1))], ">", (-1, BIG))]
        self.assertEqual(solve(system)[0], "point")
        system[2] = row([("y", (1, 1))], ">=", (0, 1))
        self.assertEqual(solve(system), ("paper", paper_of((0, 1), (1, BIG), (2, 1))))


class Solve(Checks):
    def test_small_systems(self):
        words = [self.check_told(system) for system in SMALL]
        self.assertGreater(words.count("point"), 300)
        self.assertGreater(words.count("paper"), 300)

    def test_against_a_second_telling(self):
        many = [("x", 5, 100), ("xy", 6, 250), ("xyz", 6, 250), ("abcd", 8, 150)]
        for seed, (names, most, count) in enumerate(many):
            for system in some_systems(40 + seed, count, names, most):
                self.check_told(system)
                self.assertEqual(solve(system), plain_solve(system))
        for system in SMALL[::3]:
            self.assertEqual(solve(system), plain_solve(system))

    def test_nothing_is_modified(self):
        for system in SMALL[:200]:
            before = deepcopy(system)
            for function in (solve, has_points, core):
                function(system)
                self.assertEqual(system, before)

    def test_the_same_again(self):
        for system in SMALL[::20]:
            self.assertEqual(solve(system), solve(deepcopy(system)))


class Speed(Checks):
    """Each of these has to come to its end within a few seconds."""

    def setUp(self):
        signal.signal(signal.SIGALRM, too_long)
        signal.alarm(20)

    def tearDown(self):
        signal.alarm(0)

    def test_eight_rows_over_four_unknowns(self):
        # For each unknown, four rows have it with a number above 0 and four with one below 0.
        for shift in range(6):
            system = []
            for k in range(8):
                tops = [(1, -1)[k // 4], (1, -1)[k // 2 % 2], (1, -1)[k % 2], (1, -1)[(k + k // 2 + k // 4) % 2]]
                pairs = [(name, (top * (1 + (k * 7 + at * 5 + shift) % 11), 1 + (k + at) % 3))
                         for at, (name, top) in enumerate(zip("abcd", tops))]
                system.append(row(pairs, ("<=", "<")[k % 3 == 1], pair(Fraction(k * k - 9 * shift, 2))))
            self.check_told(system)

    def test_with_digits(self):
        for system in some_systems(47, 30, "abcd", 8, ("<=", "<")):
            longer = [row([(name, (top * 98765 + k, 1)) for k, (name, (top, _)) in enumerate(parts)], sign, bound)
                      for parts, sign, bound in system]
            self.check_told(longer)


class Core(unittest.TestCase):
    def check(self, text, indices):
        self.assertEqual(core(rows_of(text)), indices, text)

    def test_with_points(self):
        self.check("", None)
        self.check("x <= 1", None)
        self.check("x + y >= 3; x < 1; y <= 5/2", None)
        self.check("0 <= 1; x = 2", None)

    def test_all_rows(self):
        self.check("x < 0; x > 0", [0, 1])
        self.check("x + y >= 3; x < 1; 2 y <= 4", [0, 1, 2])
        self.check("0 < 0", [0])

    def test_from_the_first_to_the_last(self):
        self.check("x < 0; x > 0; x < -1", [1, 2])
        self.check("x < 0; y < 0; x > 0; y > 0", [1, 3])
        self.check("x <= 0; x <= 0; x > 0; x > 0", [1, 3])
        self.check("x = 1; x = 2; x = 3", [1, 2])
        self.check("0 < 0; x < 0; x > 0", [1, 2])
        self.check("x < 0; x > 0; 0 < 0", [2])
        self.check("y < 5; x < 0; z = 1; x > 0; y = z", [1, 3])
        self.check("x + y >= 3; x < 1; y <= 2; y <= 1; x < 1/2", [0, 3, 4])

    def test_it_is_not_the_rows_of_the_paper(self):
        system = rows_of("x < 0; x > 0; y <= 0; y >= 1")
        self.assertEqual([index for index, _ in solve(system)[1]], [0, 1])
        self.assertEqual(core(system), [2, 3])

    def test_what_is_left(self):
        found = 0
        for system in SMALL + some_systems(48, 150, "xy", 7):
            indices = core(system)
            self.assertEqual(indices is None, has_points(system))
            if indices is None:
                continue
            found += 1
            self.assertIs(type(indices), list)
            self.assertEqual(indices, sorted(set(indices)))
            left = [system[index] for index in indices]
            self.assertIs(has_points(left), False)
            for k in range(len(left)):
                self.assertIs(has_points(left[:k] + left[k + 1:]), True)
            # Each row that was left out could be, with all behind it.
            for index in range(len(system)):
                if index not in indices:
                    others = [system[k] for k in indices if k < index] + system[index + 1:]
                    self.assertIs(has_points(others), False)
        self.assertGreater(found, 300)

    def test_a_new_list(self):
        system = rows_of("x < 0; x > 0")
        core(system).clear()
        self.assertEqual(core(system), [0, 1])


def too_long(number, frame):
    raise AssertionError("does not come to its end")


if __name__ == "__main__":
    unittest.main()
