"""linpapers/projections.py: the projection of a system away from some unknowns, and the lifted point."""

import unittest
from copy import deepcopy
from fractions import Fraction
from math import gcd

from formulahelpers import grid
from helpers import (
    all_true_at, fitted, paper_of, plain_cleaned, plain_eliminated, plain_row, point_of, rows_of, simplest,
    some_systems, told_row)
from linpapers.elimination import cleaned, derived
from linpapers.papers import is_paper, shows, sum_of
from linpapers.projections import lifted, projection
from linpapers.rowtext import read_row
from linpapers.systems import has_points, solve

HALF = Fraction(1, 2)

SYSTEMS = (some_systems(91, 120, "xyz", 6) + some_systems(92, 60, "xy", 6) + some_systems(93, 30, "abcd", 8)
           + [rows_of("0 <= -1; x + y <= 1; y >= 0; x > z"), rows_of("0 < 0; x = y; y = 2; y <= 1"),
              rows_of("x + y = 1; x + y = 2; z - y <= 3; z + y > 1; x + z < 0"), []])


def name_lists(system):
    """Return lists of names for a system, in several orders, also with an unknown that it does not have."""
    names = sorted({name for parts, _, _ in system for name, _ in parts})
    return [[], names[:1], names[1:], names[::-1], names[::2][::-1], ["zz"] + names[1:2], names[2:] + ["a0"]]


def plain_lists(system, names, turned=False):
    """Return the lists of the elimination of all names, as plain rows."""
    lists = [plain_cleaned([plain_row(some_row, ((at, (1, 1)),)) for at, some_row in enumerate(system)])]
    for name in sorted(names, reverse=turned):
        lists.append(plain_cleaned(plain_eliminated(lists[-1], name)))
    return lists


def plain_lifted(system, names, point):
    """Return what lifted is to return."""
    lists = plain_lists(system, names)
    place = {name: Fraction(0) for parts, _, _ in system for name, _ in parts}
    place.update({name: Fraction(*number) for name, number in point})
    place = {name: number for name, number in place.items() if name not in names}
    if not all_true_at([told_row(plain)[0] for plain in lists[-1]], point_of(**place)):
        return None
    for at, name in reversed(list(enumerate(sorted(names)))):
        place[name] = simplest([fitted(plain, name, place) for plain in lists[at] if name in plain[0]])
    return point_of(**place)


class Projection(unittest.TestCase):
    def check(self, text, names, *rows):
        """Check a projection, of which each row is given as a text and the pairs of its paper."""
        found = [(read_row(row_text), paper_of(*pairs)) for row_text, pairs in rows]
        self.assertEqual(projection(rows_of(text), names), found, (text, names))

    def test_one_unknown(self):
        self.check("x + y <= 3; y >= 1", ["y"], ("x <= 2", [(0, 1), (1, 1)]))
        self.check("x + y <= 3; y >= 1", ["x"], ("y >= 1", [(1, 1)]))
        self.check("x + 2 y < 3; 3 y >= 1; x >= -1", ["y"],
                   ("x >= -1", [(2, 1)]), ("3 x < 7", [(0, 1), (1, 2)]))
        self.check("x <= 3", ["x"])

    def test_equalities(self):
        self.check("x + 2 y = 3; x <= 1; z - x < 2", ["x"], ("2 y >= 2", [(0, -HALF), (1, HALF)]),
                   ("2 y + z < 5", [(0, 1), (2, 1)]))
        self.check("x = y; y = z", ["y"], ("x = z", [(0, 1), (1, 1)]))
        self.check("x = y; y = z", ["x"], ("y = z", [(1, 1)]))

    def test_several_unknowns(self):
        self.check("x + y + z <= 3; y >= 1; z > 1/2", ["z", "y"], ("2 x < 3", [(0, 1), (1, 1), (2, 1)]))
        self.check("x + y + z <= 3; y >= 1; z > 1/2", ["x", "y"], ("z > 1/2", [(2, 1)]))
        self.check("x + y + z <= 3; y >= 1; z > 1/2", ["x", "y", "z"])

    def test_no_names(self):
        self.check("x <= 3; y < 1", [], ("x <= 3", [(0, 1)]), ("y < 1", [(1, 1)]))
        self.check("", [])
        for system in SYSTEMS:
            self.assertEqual(projection(system, []), cleaned(derived(system)))

    def test_names_that_the_system_does_not_have(self):
        self.check("x <= 3; y < 1", ["z"], ("x <= 3", [(0, 1)]), ("y < 1", [(1, 1)]))
        self.check("x <= 3; y < 1", ["z", "x", "a"], ("y < 1", [(1, 1)]))
        self.check("", ["x"])

    def test_cleaned_at_the_beginning(self):
        self.check("x <= 3; 0 <= 1; x <= 2; y = 1; y = 1; x < 2; 0 = 0", [],
                   ("y = 1", [(3, 1)]), ("x < 2", [(5, 1)]))

    def test_cleaned_behind_each_unknown(self):
        self.check("x + y <= 3; x <= 2; y >= 0; y >= 1", ["y"], ("x <= 2", [(1, 1)]))
        self.check("x + y <= 3; x < 2; y >= 1", ["y"], ("x < 2", [(1, 1)]))
        self.check("x <= y; x >= y; z <= 1", ["x"], ("z <= 1", [(2, 1)]))
        self.check("x <= y; y <= x; y = z; y = z + x - x", ["x"], ("y = z", [(2, 1)]))

    def test_rows_that_hold_nowhere_stay(self):
        self.check("0 <= -1", ["x"], ("0 <= -1", [(0, 1)]))
        self.check("0 <= -1; x + y <= 1; y >= 0", [], ("0 <= -1", [(0, 1)]), ("x + y <= 1", [(1, 1)]),
                   ("y >= 0", [(2, 1)]))
        self.check("0 <= -1; x + y <= 1; y >= 0", ["y"], ("0 <= -1", [(0, 1)]), ("x <= 1", [(1, 1), (2, 1)]))

    def test_all_are_eliminated_behind_such_a_row(self):
        # Eliminating x already leaves a row that holds nowhere.
        self.check("x < 0; x > 0; y + z <= 1; z >= 2; y >= w", ["z", "y", "x"],
                   ("0 < 0", [(0, 1), (1, 1)]), ("w <= -1", [(2, 1), (3, 1), (4, 1)]))
        self.check("0 < 0; x = y; y = 2; y <= 1", ["y"],
                   ("0 < 0", [(0, 1)]), ("x = 2", [(1, 1), (2, 1)]), ("x <= 1", [(1, 1), (3, 1)]))
        self.check("0 = 1; x <= 1; x >= 2", ["x"], ("0 = 1", [(0, 1)]), ("0 <= -1", [(1, 1), (2, 1)]))

    def test_names_in_any_order(self):
        told_apart = 0
        for system in SYSTEMS:
            names = sorted({name for parts, _, _ in system for name, _ in parts})
            for some in (names, names[:2], names[1:]):
                found = projection(system, some)
                self.assertEqual(projection(system, some[::-1]), found)
                self.assertEqual(projection(system, some[1:] + some[:1]), found)
                turned = [told_row(plain) for plain in plain_lists(system, some, turned=True)[-1]]
                told_apart += turned != found
        self.assertGreater(told_apart, 10)

    def test_against_a_second_telling(self):
        for system in SYSTEMS:
            for names in name_lists(system):
                found = [told_row(plain) for plain in plain_lists(system, names)[-1]]
                self.assertEqual(projection(system, names), found, (system, names))

    def test_the_papers(self):
        for system in SYSTEMS:
            for names in name_lists(system):
                for some_row, paper in projection(system, names):
                    self.assertIs(is_paper(system, paper), True)
                    # The number by which the sum is made normal is 1.
                    self.assertEqual(sum_of(system, paper), some_row)
                    self.assertIs(shows(system, paper, some_row), True)
                    self.check_normal(some_row)
                    self.assertFalse({name for name, _ in some_row[0]} & set(names))

    def check_normal(self, some_row):
        parts, sign, bound = some_row
        if parts:
            self.assertTrue(all(bottom == 1 for _, (_, bottom) in parts))
            self.assertEqual(gcd(*[top for _, (top, _) in parts]), 1)
            self.assertTrue(sign != "=" or parts[0][1][0] > 0)
        else:
            self.assertIn(bound, ((0, 1), (1, 1), (-1, 1)))

    def test_points_of_the_projection(self):
        for system in some_systems(94, 60, "xy", 5):
            rows = [some_row for some_row, _ in projection(system, ["y"])]
            for point in grid("x"):
                number = point[0][1]
                fixed = system + [((("x", (1, 1)),), "=", number)]
                self.assertIs(all_true_at(rows, point), has_points(fixed), (system, point))

    def test_nothing_is_modified(self):
        for system in SYSTEMS[::5]:
            for names in name_lists(system):
                before = deepcopy((system, names))
                projection(system, names)
                lifted(system, names, point_of(x=1))
                self.assertEqual((system, names), before)

    def test_a_new_list(self):
        system = rows_of("x <= 3; y < 1")
        projection(system, []).clear()
        projection(system, ["x"]).append(None)
        self.assertEqual(projection(system, []), derived(system))
        self.assertEqual(projection(system, ["x"]), derived(system)[1:])


class Lifted(unittest.TestCase):
    def check(self, text, names, point, found):
        self.assertEqual(lifted(rows_of(text), names, point), found, (text, names, point))

    def test_the_simplest_numbers(self):
        self.check("x > 1/3; x < 1/2", ["x"], (), point_of(x=Fraction(2, 5)))
        self.check("y > x; y < x + 1", ["y"], point_of(x=2), point_of(x=2, y=Fraction(5, 2)))
        self.check("y >= x; y <= x + 1", ["y"], point_of(x=Fraction(-7, 3)), point_of(x=Fraction(-7, 3), y=-2))
        self.check("x = 2 y", ["x"], point_of(y=Fraction(3, 4)), point_of(x=Fraction(3, 2), y=Fraction(3, 4)))
        self.check("x <= 1", ["x"], (), point_of(x=0))

    def test_in_the_opposite_order(self):
        self.check("x + y = 5", ["x", "y"], (), point_of(x=5, y=0))
        self.check("x + y = 5", ["y", "x"], (), point_of(x=5, y=0))
        self.check("x + y + z = 5", ["z", "x"], point_of(y=1), point_of(x=4, y=1, z=0))
        self.check("x + y + z = 5", ["z", "x"], (), point_of(x=5, y=0, z=0))
        self.check("x - y > 0; y - z > 0", ["x", "y"], point_of(z=3), point_of(x=5, y=4, z=3))

    def test_all_unknowns(self):
        for system in SYSTEMS:
            names = sorted({name for parts, _, _ in system for name, _ in parts})
            word, found = solve(system)
            self.assertEqual(lifted(system, names[::-1], ()), found if word == "point" else None)

    def test_numbers_of_the_point_are_kept(self):
        self.check("x + y >= 3", ["y"], point_of(x=HALF), point_of(x=HALF, y=3))
        self.check("x + y >= 3", ["y"], point_of(a=7, x=1, z=-HALF), point_of(a=7, x=1, y=2, z=-HALF))
        self.check("x + y >= 3", [], point_of(x=1, y=2), point_of(x=1, y=2))
        self.check("x + y >= 3", [], point_of(w=9, x=1, y=2), point_of(w=9, x=1, y=2))
        self.check("", [], point_of(w=9), point_of(w=9))
        self.check("", [], (), ())

    def test_unknowns_that_are_not_told(self):
        self.check("x + y >= 3; z <= 1", ["y"], (), point_of(x=0, y=3, z=0))
        self.check("x + y >= 3; z <= 1", ["y"], point_of(x=2), point_of(x=2, y=1, z=0))
        self.check("x <= 1; y <= 1", [], (), point_of(x=0, y=0))
        self.check("x <= 1; z >= 1; b = a", ["x"], (), None)

    def test_numbers_of_names_are_not_kept(self):
        self.check("x + y >= 3", ["y"], point_of(x=1, y=9), point_of(x=1, y=2))
        self.check("x + y >= 3", ["y"], point_of(x=1, y=0), point_of(x=1, y=2))
        self.check("x + y = 5", ["x", "y"], point_of(x=1, y=4), point_of(x=5, y=0))
        self.check("x <= 1", ["z"], point_of(x=1, z=4), point_of(x=1, z=0))

    def test_names_that_no_row_has(self):
        self.check("x <= 1", ["z"], (), point_of(x=0, z=0))
        self.check("x <= 1", ["z", "a"], point_of(x=-2), point_of(a=0, x=-2, z=0))
        self.check("", ["z"], point_of(b=1), point_of(b=1, z=0))

    def test_none(self):
        self.check("x <= 1", [], point_of(x=2), None)
        self.check("x <= 1", ["y"], point_of(x=2), None)
        self.check("x + y <= 3; y >= 1", ["y"], point_of(x=Fraction(5, 2)), None)
        self.check("x + y <= 3; y >= 1", ["y"], point_of(x=2), point_of(x=2, y=1))
        self.check("x + y < 3; y >= 1", ["y"], point_of(x=2), None)
        self.check("y = x; y = 2", ["y"], point_of(x=1), None)
        self.check("x <= -1", [], (), None)

    def test_none_without_points(self):
        self.check("0 <= -1", [], (), None)
        self.check("0 < 0; x <= 1", ["x"], (), None)
        self.check("x < 0; x > 0", ["x"], (), None)
        self.check("x < 0; x > 0; y <= 1", ["x", "y"], point_of(x=1), None)

    def test_on_a_grid(self):
        counts = {True: 0, False: 0}
        for k, system in enumerate(some_systems(95, 50, "xyz", 5) + SYSTEMS[-4:]):
            for names in (["y"], ["z", "x"], ["z"], ["w", "z", "y"], []):
                others = "".join(name for name in "xyz" if name not in names)
                for point in grid(others, (-2, 0, Fraction(1, 2), 3))[k % 3::3]:
                    counts[self.check_lifted(system, names, point)] += 1
        self.assertGreater(min(counts.values()), 400)

    def check_lifted(self, system, names, point):
        """Check what lifted returns; return whether it is a point."""
        found = lifted(system, names, point)
        self.assertEqual(found, plain_lifted(system, names, point), (system, names, point))
        rows = [some_row for some_row, _ in projection(system, names)]
        self.assertIs(found is not None, all_true_at(rows, point))
        if found is None:
            return False
        self.assertTrue(all_true_at(system, found))
        own = {name for parts, _, _ in system for name, _ in parts}
        told = [name for name, _ in found]
        self.assertEqual(told, sorted(own | set(names) | {name for name, _ in point}))
        for name, number in point:
            self.assertTrue(name in names or dict(found)[name] == number)
        return True


if __name__ == "__main__":
    unittest.main()
