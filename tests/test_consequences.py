"""linpapers/consequences.py: what follows, its papers, needed rows, alike systems, the telling point."""

import unittest
from copy import deepcopy
from fractions import Fraction

from helpers import all_true_at, paper_of, point_of, rows_of, some_systems, true_at
from linpapers.consequences import are_alike, follows, needed, papers_of, telling_point
from linpapers.errors import LinpapersError, NoPoints
from linpapers.papers import shows
from linpapers.rows import opposites, row
from linpapers.rowtext import read_row
from linpapers.systems import has_points, solve

HALF = Fraction(1, 2)

WITHOUT_POINTS = ("0 < 0", "0 = 1", "x < 0; x > 0", "x = 1; x = 2", "x + y >= 3; x < 1; 2 y <= 4")
ANY_ROWS = rows_of("x <= 1; x < -7; x = 3; z = 1/2; y - z < 0; 0 <= 1; 0 <= -1; 0 = 1; 0 < 0; 0 = 0")


def halves(some_row):
    """Return the rows that the papers of a row show, in order."""
    parts, sign, bound = some_row
    return [some_row] if sign != "=" else [row(parts, "<=", bound), row(parts, ">=", bound)]


class Follows(unittest.TestCase):
    def check(self, text, row_text, result):
        self.assertIs(follows(rows_of(text), read_row(row_text)), result, (text, row_text))

    def test_at_most(self):
        self.check("x <= 1", "x <= 1", True)
        self.check("x <= 1", "x <= 2", True)
        self.check("x <= 1", "x <= 1/2", False)
        self.check("x < 1", "x <= 1", True)
        self.check("x = 1", "x <= 1", True)
        self.check("x = 1", "x >= 1", True)
        self.check("x <= 1", "x >= 0", False)
        self.check("x + y <= 3; y >= 1", "x <= 2", True)
        self.check("x + y <= 3; y >= 1", "2 x <= 3", False)

    def test_less_than(self):
        self.check("x < 1", "x < 1", True)
        self.check("x <= 1", "x < 1", False)
        self.check("x <= 1", "x < 2", True)
        self.check("x = 1", "x < 1", False)
        self.check("x = 1", "x < 3/2", True)
        self.check("x + y <= 3; y > 1", "x < 2", True)
        self.check("x + y < 3; y >= 1", "x < 2", True)
        self.check("x + y <= 3; y >= 1", "x < 2", False)

    def test_equal(self):
        self.check("x = 1", "x = 1", True)
        self.check("x <= 1; x >= 1", "x = 1", True)
        self.check("x <= 1", "x = 1", False)
        self.check("x >= 1", "x = 1", False)
        self.check("x = 1", "x = 2", False)
        self.check("x + y = 3; x - y = 1", "x = 2", True)
        self.check("x + y = 3; x - y = 1", "3 x + 5 y = 11", True)
        self.check("x + y <= 3; x + y >= 3; y = 1", "x = 2", True)

    def test_without_rows(self):
        self.check("", "x <= 1", False)
        self.check("", "x = x", True)
        self.check("", "0 < 1", True)

    def test_rows_without_parts(self):
        for text in ("", "x <= 1", "x = 1; y < 0"):
            for row_text, result in (("0 <= 1", True), ("0 <= 0", True), ("0 < 1", True), ("0 = 0", True),
                                     ("0 <= -1", False), ("0 < 0", False), ("0 < -1", False), ("0 = 1", False)):
                self.check(text, row_text, result)

    def test_unknowns_that_the_system_does_not_have(self):
        self.check("x <= 1", "z <= 1", False)
        self.check("x <= 1", "x + z <= 1", False)
        self.check("x <= 1; z = 0", "x + z <= 1", True)

    def test_from_a_system_without_points(self):
        for text in WITHOUT_POINTS:
            for some_row in ANY_ROWS:
                self.assertIs(follows(rows_of(text), some_row), True, (text, some_row))


class PapersOf(unittest.TestCase):
    def check(self, text, row_text, *papers):
        found = tuple(paper_of(*pairs) for pairs in papers)
        self.assertEqual(papers_of(rows_of(text), read_row(row_text)), found, (text, row_text))
        for paper, half in zip(found, halves(read_row(row_text))):
            self.assertIs(shows(rows_of(text), paper, half), True)

    def check_none(self, text, row_text):
        self.assertIsNone(papers_of(rows_of(text), read_row(row_text)), (text, row_text))

    def test_one_row(self):
        self.check("x <= 1", "x <= 1", [(0, 1)])
        self.check("y <= 1; x <= 1", "x <= 2", [(1, 1)])
        self.check("2 x + 3 y <= 1", "2 x + 3 y < 2", [(0, 1)])
        self.check("x <= 1; x <= 0", "x <= 2", [(1, 1)])
        self.check("x < 1", "x <= 1", [(0, 1)])

    def test_several_rows(self):
        self.check("x + y <= 3; y >= 1", "x <= 2", [(0, 1), (1, 1)])
        self.check("x + y <= 3; y > 1", "x < 2", [(0, 1), (1, 1)])
        self.check("x + y <= 3; x - y < 1", "x < 2", [(0, HALF), (1, HALF)])
        self.check("x + y <= 3; x - y < 1", "x <= 5", [(0, HALF), (1, HALF)])
        self.check("2 x + 3 y <= 1; y >= 0", "2 x <= 1", [(0, HALF), (1, Fraction(3, 2))])
        self.check("2 x + y <= 1; x + 2 y <= 1", "x + y <= 1", [(0, Fraction(1, 3)), (1, Fraction(1, 3))])

    def test_equalities_in_the_system(self):
        self.check("x = 1", "x <= 1", [(0, 1)])
        self.check("x = 1", "x >= 1", [(0, -1)])
        self.check("x = 1", "x > 1/2", [(0, -1)])
        self.check("x + y = 3; y <= 1", "x >= 2", [(0, -1), (1, 1)])

    def test_two_papers_for_an_equality(self):
        self.check("x = 1", "x = 1", [(0, 1)], [(0, -1)])
        self.check("x >= 1; x <= 1", "x = 1", [(1, 1)], [(0, 1)])
        self.check("x <= 1; x >= 1", "x = 1", [(0, 1)], [(1, 1)])
        self.check("x + y = 3; x - y = 1", "x = 2", [(0, HALF), (1, HALF)], [(0, -HALF), (1, -HALF)])
        self.check("x - y <= 0; y - x <= 0; y = 4", "x = 4", [(0, 1), (2, 1)], [(1, 1), (2, -1)])

    def test_rows_without_parts(self):
        for text in ("", "x <= 1", "x = 1; y < 0"):
            for row_text in ("0 <= 1", "0 <= 0", "0 < 1"):
                self.check(text, row_text, [])
            self.check(text, "0 = 0", [], [])
            for row_text in ("0 <= -1", "0 < 0", "0 < -1", "0 = 1"):
                self.check_none(text, row_text)

    def test_none_where_it_does_not_follow(self):
        self.check_none("", "x <= 1")
        self.check_none("x <= 1", "x < 1")
        self.check_none("x <= 1", "x <= 1/2")
        self.check_none("x <= 1", "x = 1")
        self.check_none("x >= 1", "x = 1")
        self.check_none("x = 1", "x = 2")
        self.check_none("x <= 1", "z <= 1")

    def test_no_points(self):
        for text in WITHOUT_POINTS:
            for some_row in ANY_ROWS:
                with self.assertRaises(NoPoints):
                    papers_of(rows_of(text), some_row)
        with self.assertRaises(LinpapersError):
            papers_of(rows_of("0 < 0"), read_row("x <= 1"))

    def test_many(self):
        counts = {}
        for k, system in enumerate(some_systems(71, 200, "xy", 5) + some_systems(72, 60, "xyz", 6)):
            others = some_systems(1000 + k, 2, "xy", 3)
            for some_row in others[0] + others[1] + system[:1]:
                result = follows(system, some_row)
                if has_points(system):
                    kind = (some_row[1], self.check_papers(system, some_row, result))
                    counts[kind] = counts.get(kind, 0) + 1
                else:
                    self.assertIs(result, True)
        for sign in ("<=", "<", "="):
            self.assertTrue(counts[(sign, True)] > 10 and counts[(sign, False)] > 10, counts)

    def check_papers(self, system, some_row, result):
        """Check a row and its papers over a system with points; return whether it follows."""
        before = deepcopy(system)
        papers = papers_of(system, some_row)
        self.assertEqual(system, before)
        self.assertIs(papers is not None, result)
        if not result:
            # There is a point of the system at which the row does not hold.
            points = [solve(system + [opposite]) for opposite in opposites(some_row)]
            self.assertIn("point", [word for word, _ in points])
            return False
        self.assertIs(type(papers), tuple)
        self.assertEqual(len(papers), len(halves(some_row)))
        for paper, half in zip(papers, halves(some_row)):
            self.assertIs(shows(system, paper, half), True, (system, half))
            word, found = solve(system + opposites(half))
            last = found[-1]
            self.assertEqual((word, last[0]), ("paper", len(system)))
            self.assertEqual(paper, paper_of(*[
                (index, Fraction(*multiplier) / Fraction(*last[1])) for index, multiplier in found[:-1]]))
        return True

    def test_the_opposite_is_left_out_only_without_points(self):
        for k, system in enumerate(some_systems(73, 300, "xy", 6)):
            for opposite in opposites(ANY_ROWS[k % 5]):
                word, found = solve(system + [opposite])
                if word == "paper" and found[-1][0] != len(system):
                    self.assertIs(has_points(system), False)


class Needed(unittest.TestCase):
    def check(self, text, indices):
        self.assertEqual(needed(rows_of(text)), indices, text)

    def test_all(self):
        self.check("", [])
        self.check("x <= 1", [0])
        self.check("x <= 1; x >= 0; y < x", [0, 1, 2])

    def test_rows_that_follow(self):
        self.check("x <= 1; x <= 2", [0])
        self.check("x <= 2; x <= 1", [1])
        self.check("x <= 1; y <= 1; x + y <= 2", [0, 1])
        self.check("x + y <= 2; x <= 1; y <= 1", [1, 2])
        self.check("x = 1; x <= 1; x >= 0", [0])
        self.check("0 <= 1; x <= 1; 0 = 0", [1])
        self.check("0 <= 1", [])

    def test_from_the_first_to_the_last(self):
        self.check("x <= 1; x <= 1", [1])
        self.check("x <= 1; 2 x <= 2; x <= 1", [2])
        self.check("x = 1; x <= 1; x >= 1", [1, 2])
        self.check("x <= 1; x >= 1; x = 1", [2])
        self.check("x = y; y = z; x = z", [1, 2])
        self.check("x < 1; x <= 1; x < 1", [2])

    def test_without_points(self):
        self.check("0 < 0", [0])
        self.check("x < 0; x > 0", [0, 1])
        self.check("x < 0; x > 0; 0 < 0", [2])
        self.check("x < 0; x > 0; x < -1", [1, 2])
        self.check("x < 0; y < 3; x > 0", [0, 2])

    def test_what_is_left(self):
        for system in some_systems(74, 200, "xy", 6):
            before = deepcopy(system)
            indices = needed(system)
            self.assertEqual(system, before)
            self.assertIs(type(indices), list)
            left = [system[index] for index in indices]
            for index, some_row in enumerate(system):
                self.assertIs(follows(left, some_row), True)
                ahead = [system[k] for k in indices if k < index]
                # It was left out just if it followed from those still there then.
                self.assertIs(follows(ahead + system[index + 1:], some_row), index not in indices)
            for k, some_row in enumerate(left):
                self.assertIs(follows(left[:k] + left[k + 1:], some_row), False)

    def test_a_new_list(self):
        system = rows_of("x <= 1; x >= 0")
        needed(system).clear()
        self.assertEqual(needed(system), [0, 1])


class Alike(unittest.TestCase):
    def check(self, text, other_text, result):
        for first, second in ((text, other_text), (other_text, text)):
            self.assertIs(are_alike(rows_of(first), rows_of(second)), result, (first, second))
            self.assertIs(telling_point(rows_of(first), rows_of(second)) is None, result, (first, second))

    def test_alike(self):
        self.check("", "", True)
        self.check("", "0 <= 1; x = x", True)
        self.check("x <= 1; y <= 2", "y <= 2; x <= 1", True)
        self.check("x <= 1; y <= 2", "x <= 1; y <= 2; x + y <= 3", True)
        self.check("x <= 1; y <= 2", "x <= 1; y <= 2; x + y < 4; 0 < 1", True)
        self.check("x = 1", "x <= 1; x >= 1", True)
        self.check("x = y; y = 2", "x = 2; x + y = 4", True)

    def test_not_alike(self):
        self.check("", "x <= 1", False)
        self.check("x <= 1", "x <= 2", False)
        self.check("x <= 1", "x < 1", False)
        self.check("x <= 1", "x = 1", False)
        self.check("x <= 1; y <= 2", "x <= 1; y <= 2; x + y <= 2", False)
        self.check("x <= 1", "y <= 1", False)
        self.check("x <= 1", "-x <= -1", False)

    def test_without_points(self):
        for text in WITHOUT_POINTS:
            for other_text in WITHOUT_POINTS:
                self.check(text, other_text, True)
            for other_text in ("", "x <= 1", "x = 1; y = 2", "0 <= 1"):
                self.check(text, other_text, False)


class TellingPoint(unittest.TestCase):
    def check(self, text, other_text, point):
        system, other = rows_of(text), rows_of(other_text)
        self.assertEqual(telling_point(system, other), point, (text, other_text))
        self.assertEqual((system, other), (rows_of(text), rows_of(other_text)))

    def test_the_rows_of_the_second_system(self):
        self.check("x <= 2", "x <= 1", point_of(x=2))
        self.check("", "x <= 1", point_of(x=2))
        self.check("x <= 1", "x < 1", point_of(x=1))
        self.check("x >= 0", "x >= 0; y <= 3", point_of(x=0, y=4))

    def test_the_systems_exchanged(self):
        self.check("x <= 1", "x <= 2", point_of(x=2))
        self.check("x <= 1", "", point_of(x=2))
        self.check("x >= 0; y <= 3", "x >= 0", point_of(x=0, y=4))
        self.check("x = 1", "x <= 1", point_of(x=0))

    def test_the_rows_in_order(self):
        self.check("x <= 5; y <= 5", "x <= 1; y <= 1", point_of(x=2, y=0))
        self.check("x <= 5; y <= 5", "y <= 1; x <= 1", point_of(x=0, y=2))
        self.check("x <= 5; y <= 5", "x <= 5; y <= 1", point_of(x=0, y=2))
        self.check("x <= 1; y <= 1", "y <= 5; x <= 5", point_of(x=2, y=0))

    def test_the_second_system_goes_ahead(self):
        self.check("x <= 1; y <= 2", "x <= 2; y <= 1", point_of(x=0, y=2))
        self.check("x <= 2; y <= 1", "x <= 1; y <= 2", point_of(x=2, y=0))
        self.check("x <= -1", "x >= 1", point_of(x=-1))
        self.check("x >= 1", "x <= -1", point_of(x=1))

    def test_the_opposites_in_order(self):
        self.check("", "x = 1", point_of(x=0))
        self.check("", "x = -1", point_of(x=-2))
        self.check("x >= 1", "x = 1", point_of(x=2))
        self.check("x <= 5; x >= 0", "x = 3; x <= 2", point_of(x=0))
        self.check("x = 1", "", point_of(x=0))
        self.check("", "x - y = -1", point_of(x=-2, y=0))

    def test_the_told_point(self):
        self.check("x > 1/3; x < 1/2", "x <= 1/3", point_of(x=Fraction(2, 5)))
        self.check("x + y = 3", "x + y = 3; x > 7/2", point_of(x=3, y=0))

    def test_without_points(self):
        self.check("0 < 0", "x <= 3", point_of(x=0))
        self.check("x <= -3", "0 < 0", point_of(x=-3))
        self.check("x < 0; x > 0", "", point_of(x=0))
        self.check("0 < 0", "0 = 1", None)
        self.check("x < 0; x > 0", "0 = 1", None)

    def test_none_where_they_are_alike(self):
        self.check("x <= 1; y <= 2", "x + y <= 3; y <= 2; x <= 1", None)
        self.check("x = 1", "x >= 1; x <= 1", None)
        self.check("", "", None)

    def test_many(self):
        found = 0
        systems = some_systems(75, 160, "xy", 3) + some_systems(76, 60, "x", 3)
        for system, other in zip(systems, systems[1:] + systems[:1]):
            point = telling_point(system, other)
            self.assertEqual(point, self.first_told_point(system, other))
            self.assertIs(are_alike(system, other), point is None)
            self.assertIsNone(telling_point(system, list(reversed(system)) + system[:1]))
            if point is None:
                self.assertTrue(all(follows(system, some_row) for some_row in other))
                self.assertTrue(all(follows(other, some_row) for some_row in system))
            else:
                found += 1
                self.assertNotEqual(all_true_at(system, point), all_true_at(other, point))
        self.assertGreater(found, 100)

    def first_told_point(self, system, other):
        for first, second in ((system, other), (other, system)):
            for some_row in second:
                for opposite in opposites(some_row):
                    word, found = solve(first + [opposite])
                    if word == "point":
                        self.assertFalse(true_at(some_row, found))
                        return found
        return None


if __name__ == "__main__":
    unittest.main()
