"""linpapers/wholes.py: rounded rows, whole points of boxes, whole proofs and their flaws."""

import itertools
import random
import unittest
from copy import deepcopy
from fractions import Fraction

from formulahelpers import TooMany, rows_step
from helpers import all_true_at, pair, plain_solve, point_of, rows_of, true_at
from linpapers.errors import FormulaError
from linpapers.papers import refutes
from linpapers.rows import row
from linpapers.rowtext import format_row, read_row
from linpapers.wholes import decide_whole, flaw_of_whole, rounded

# Boxes with one row each, with the word that decide_whole returns first, and the number of boxes that are looked at.
LONG = [
    ("proof", 299, (("x", 0, 14), ("y", -19, 19), ("z", 0, 6)), "67 x + 103 y + 68 z = 553"),
    ("proof", 299, (("x", -5, 5), ("y", 0, 9), ("z", 0, 8)), "116 x + 59 y + 118 z = 970"),
    ("point", 300, (("x", 0, 14), ("y", -10, 10), ("z", 0, 13)), "69 x + 102 y + 34 z = 1034"),
    ("point", 300, (("x", 0, 19), ("y", 0, 18), ("z", 0, 20)), "36 x + 19 y + 18 z = 723"),
]
TOO_LONG = [
    ("proof", 301, (("x", -6, 6), ("y", 0, 17), ("z", 0, 12)), "81 x + 42 y + 82 z = 1555"),
    ("proof", 301, (("x", 0, 7), ("y", 0, 10), ("z", 0, 10)), "23 x + 22 y + 45 z >= 283; 23 x + 22 y + 45 z <= 284"),
    ("point", 301, (("x", -13, 13), ("y", 0, 11), ("z", 0, 6)), "51 x + 50 y + 148 z = 946"),
    ("point", 302, (("x", 0, 20), ("y", 0, 16), ("z", -13, 13)), "31 x + 29 y + 46 z = 34"),
]


def box_of(**sides):
    """Return a box of pairs of a low and a high."""
    return tuple((name, *sides[name]) for name in sorted(sides))


def whole_points(box):
    """Return the points of a box with integers, as far as one around it."""
    ranges = [range(low - 1, high + 2) for _, low, high in box]
    return [tuple((name, (top, 1)) for (name, _, _), top in zip(box, tops)) for tops in itertools.product(*ranges)]


def is_in(box, point):
    return all(low <= top <= high for (_, low, high), (_, (top, _)) in zip(box, point))


def plainly_rounded(some_row):
    """Return what rounded is to return: with each sign the greatest integer that the sum may be."""
    parts, sign, (top, bottom) = some_row
    if not parts:
        return some_row
    bound = Fraction(top, bottom)
    if sign == "=":
        return some_row if bottom == 1 else None
    whole = next(value for value in range(top // bottom + 2, top // bottom - 3, -1)
                 if value < bound or (value == bound and sign == "<="))
    return (parts, "<=", (whole, 1))


def box_rows(box, rows):
    """Return the system of a box with rows."""
    system = []
    for name, low, high in box:
        system += [((((name, (-1, 1)),), "<=", (-low, 1))), ((((name, (1, 1)),), "<=", (high, 1)))]
    return system + [plainly_rounded(some_row) for some_row in rows]


def whole_found(box, rows, most=300):
    """Return what decide_whole is to return, and the number of boxes that were looked at."""
    count = [0]

    def look(part):
        count[0] += 1
        if count[0] > most:
            raise TooMany("too many steps")
        word, found = plain_solve(box_rows(part, rows))
        if word == "paper":
            return "proof", ("rows", found)
        broken = [(name, Fraction(*number)) for name, number in found if number[1] != 1]
        if not broken:
            return "point", found
        name, number = broken[0]
        k = number.numerator // number.denominator
        proofs = []
        for half in (tuple(side if side[0] != name else (name, side[1], k) for side in part),
                     tuple(side if side[0] != name else (name, k + 1, side[2]) for side in part)):
            word, found = look(half)
            if word == "point":
                return word, found
            proofs.append(found)
        return "proof", ("split", name, k, *proofs)

    for at, some_row in enumerate(rows):
        if plainly_rounded(some_row) is None:
            return ("proof", ("never", at)), 0
    return look(box), count[0]


def some_boxes(seed, many):
    """Return small boxes with rows, the same ones for the same seed."""
    chosen = random.Random(seed)
    found = []
    for _ in range(many):
        names = sorted(chosen.sample("abxyz", chosen.choice((1, 2, 2, 2, 3))))
        box = []
        for name in names:
            low = chosen.randint(-4, 3)
            box.append((name, low, low + chosen.choice((0, 1, 1, 2, 3))))
        rows = []
        for _ in range(chosen.randint(0, 8 - 2 * len(names))):
            pairs = [(name, (chosen.choice((-5, -3, -2, -1, 1, 2, 2, 3, 4)), 1)) for name in names]
            bound = pair(Fraction(chosen.randint(-12, 12), chosen.choice((1, 1, 1, 1, 2, 3))))
            rows.append(row(pairs, chosen.choice(("<=", ">=", "<", ">", "=")), bound))
        found.append((tuple(box), rows))
    return found


def hard_boxes(seed, many):
    """Return boxes with one sum between two bounds that often need splits, the same ones for the same seed."""
    chosen = random.Random(seed)
    found = []
    for _ in range(many):
        names = "xyz"[:chosen.choice((2, 2, 3))]
        box = tuple((name, low, low + chosen.randint(2, 5)) for name, low in zip(names, (0, chosen.randint(-3, 0), 0)))
        size = chosen.randint(4, 9)
        pairs = [(name, (chosen.choice((1, 1, 2)) * size + chosen.choice((-1, 0, 1)), 1)) for name in names]
        bound = chosen.randint(size, 5 * size)
        if chosen.random() < 0.5:
            found.append((box, [row(pairs, "=", (bound, 1))]))
        else:
            found.append((box, [row(pairs, ">", (bound, 1)), row(pairs, "<", (2 * bound + 5, 2))]))
    return found


class Rounded(unittest.TestCase):
    def check(self, text, found):
        expected = None if found is None else read_row(found)
        self.assertEqual(rounded(read_row(text)), expected, text)

    def test_at_most(self):
        self.check("x <= 3", "x <= 3")
        self.check("x <= 7/2", "x <= 3")
        self.check("x <= 1/3", "x <= 0")
        self.check("x <= 0", "x <= 0")
        self.check("x <= -1/3", "x <= -1")
        self.check("x <= -7/2", "x <= -4")
        self.check("x <= -3", "x <= -3")

    def test_less_than(self):
        self.check("x < 3", "x <= 2")
        self.check("x < 7/2", "x <= 3")
        self.check("x < 1/3", "x <= 0")
        self.check("x < 0", "x <= -1")
        self.check("x < -1/3", "x <= -1")
        self.check("x < -7/2", "x <= -4")
        self.check("x < -3", "x <= -4")

    def test_at_least_and_greater_than(self):
        self.check("x >= 7/2", "x >= 4")
        self.check("x > 7/2", "x >= 4")
        self.check("x > 3", "x >= 4")
        self.check("x >= 3", "x >= 3")
        self.check("x >= -7/2", "x >= -3")

    def test_equal(self):
        self.check("x = 3", "x = 3")
        self.check("2 x - 3 y = -1", "2 x - 3 y = -1")
        self.check("x = 0", "x = 0")
        self.check("x = 1/2", None)
        self.check("2 x + 3 y = -7/3", None)
        self.check("2 x + 4 y = 3", None)

    def test_several_parts(self):
        self.check("2 x - 3 y <= 7/2", "2 x - 3 y <= 3")
        self.check("4 x + 6 y < 7", "2 x + 3 y <= 3")
        self.check("4 x + 6 y <= 8", "2 x + 3 y <= 4")
        self.check("4 x + 6 y < 8", "2 x + 3 y <= 3")
        self.check("-x - y < -1/2", "-x - y <= -1")

    def test_without_parts(self):
        for text in ("0 <= 1", "0 <= 0", "0 <= -1", "0 < 1", "0 < 0", "0 < -1", "0 = 0", "0 = 1"):
            self.check(text, text)

    def test_large(self):
        big = 10 ** 30 + 7
        self.assertEqual(rounded(row([("x", (1, 1))], "<=", (big, 2)))[2], ((big - 1) // 2, 1))
        self.assertEqual(rounded(row([("x", (1, 1))], "<", (-big, 2)))[2], (-(big + 1) // 2, 1))

    def test_the_same_whole_points(self):
        for box, rows in some_boxes(151, 120):
            for some_row in rows:
                found = rounded(some_row)
                self.assertEqual(found, plainly_rounded(some_row))
                for point in whole_points(box):
                    self.assertIs(true_at(some_row, point), found is not None and true_at(found, point))


class Decide(unittest.TestCase):
    def check(self, box, text, found):
        rows = rows_of(text)
        self.assertEqual(decide_whole(box, rows), found, (box, text))
        if found[0] == "proof":
            self.assertIsNone(flaw_of_whole(box, rows, found[1]))

    def test_never(self):
        box = box_of(x=(-2, 2), y=(0, 1))
        self.check(box, "x = 1/2", ("proof", ("never", 0)))
        self.check(box, "x <= 1; 2 x + 4 y = 3; x = 1/2", ("proof", ("never", 1)))
        self.check(box, "x = 1; x = 2; y = -3/2; 0 < 0", ("proof", ("never", 2)))
        self.check(box_of(x=(1, 1)), "x > 2; x < 0; x = 1; x = 5/2", ("proof", ("never", 3)))

    def test_rows(self):
        self.check(box_of(x=(0, 5)), "x < 0", ("proof", rows_step((0, 1), (2, 1))))
        self.check(box_of(x=(0, 5)), "x > 9/2; x < 5", ("proof", rows_step((2, 1), (3, 1))))
        self.check(box_of(x=(0, 5)), "x >= 11/2", ("proof", rows_step((1, 1), (2, 1))))
        self.check(box_of(x=(0, 5), y=(-1, 3)), "x + y > 8", ("proof", rows_step((1, 1), (3, 1), (4, 1))))
        self.check(box_of(x=(0, 5), y=(-1, 3)), "x + 2 y < -2", ("proof", rows_step((0, 1), (2, 2), (4, 1))))
        self.check(box_of(x=(0, 5)), "x <= 3; 0 < 0", ("proof", rows_step((3, 1))))

    def test_rounding_goes_ahead(self):
        # Without it there would be points, and then a split.
        self.check(box_of(x=(0, 5)), "x > 1/3; x < 2/3", ("proof", rows_step((2, 1), (3, 1))))
        self.check(box_of(x=(-5, 5), y=(-5, 5)), "2 x + 2 y > 1; 2 x + 2 y < 2", ("proof", rows_step((4, 1), (5, 1))))

    def test_points(self):
        self.check(box_of(x=(0, 5)), "", ("point", point_of(x=0)))
        self.check(box_of(x=(2, 5)), "", ("point", point_of(x=2)))
        self.check(box_of(x=(-5, -2)), "x < -2", ("point", point_of(x=-3)))
        self.check(box_of(x=(3, 3)), "", ("point", point_of(x=3)))
        self.check(box_of(x=(-3, 3), y=(-3, 3), z=(1, 2)), "x + y + z >= 5", ("point", point_of(x=3, y=1, z=1)))
        self.check(box_of(x=(0, 5)), "0 <= 1; x = x", ("point", point_of(x=0)))

    def test_at_both_ends_of_a_side(self):
        self.check(box_of(x=(-2, 4)), "x >= 4", ("point", point_of(x=4)))
        self.check(box_of(x=(-2, 4)), "x <= -2", ("point", point_of(x=-2)))
        self.check(box_of(x=(-2, 4)), "x >= 5", ("proof", rows_step((1, 1), (2, 1))))
        self.check(box_of(x=(-2, 4)), "x <= -3", ("proof", rows_step((0, 1), (2, 1))))

    def test_split(self):
        self.check(box_of(x=(0, 2), y=(0, 0)), "2 x + y = 1", ("proof", (
            "split", "x", 0, rows_step((1, 2), (3, 1), (4, -1)), rows_step((0, 2), (2, 1), (4, 1)))))
        self.check(box_of(x=(-2, 0), y=(0, 0)), "2 x + y = -1", ("proof", (
            "split", "x", -1, rows_step((1, 2), (3, 1), (4, -1)), rows_step((0, 2), (2, 1), (4, 1)))))

    def test_the_first_unknown_without_an_integer(self):
        # At the told point of this box x is an integer, and y is not.
        box, rows = box_of(x=(0, 4), y=(0, 4), z=(0, 4)), rows_of("2 y + 2 z - x = 1; x <= 0")
        self.assertEqual(plain_solve(box_rows(box, rows)), ("point", point_of(x=0, y=Fraction(1, 2), z=0)))
        self.assertEqual(decide_whole(box, rows)[1][:3], ("split", "y", 0))
        # And at that of this one neither is.
        box, text = box_of(x=(-3, 3), y=(-3, 3)), "2 x + 5 y >= 3; 2 x + 5 y <= 3; y <= x; x <= 3 y + 1"
        self.assertEqual(plain_solve(box_rows(box, rows_of(text)))[1], point_of(x=Fraction(2, 3), y=Fraction(1, 3)))
        self.check(box, text, ("proof", ("split", "x", 0, rows_step((1, 7), (4, 1), (6, 5)), (
            "split", "y", 0, rows_step((3, 11), (4, 1), (7, 2)), rows_step((0, 2), (2, 5), (5, 1))))))

    def test_below_first(self):
        # Both boxes of the split at x have whole points.
        box, text = box_of(x=(-4, 4), y=(-4, 4)), "2 x + y <= 7; 3 x + 2 y <= -5; -3 x + y <= 5"
        self.assertEqual(plain_solve(box_rows(box, rows_of(text)))[1], point_of(x=Fraction(-5, 3), y=0))
        self.check(box, text, ("point", point_of(x=-2, y=-1)))
        self.assertEqual(decide_whole(box_of(x=(-1, 4), y=(-4, 4)), rows_of(text))[0], "point")
        # Here only the one above has any.
        self.check(box_of(x=(0, 4), y=(0, 4)), "2 x = 3 y + 1; y <= 2; x >= y - 1/2", ("point", point_of(x=2, y=1)))

    def test_one_to_three_unknowns(self):
        self.check(box_of(x=(1, 20)), "x >= 39/2", ("point", point_of(x=20)))
        self.check(box_of(x=(-20, 20), y=(-20, 20)), "x - y >= 40", ("point", point_of(x=20, y=-20)))
        self.check(box_of(x=(1, 1), y=(2, 2), z=(3, 3)), "x + y = z; x < y", ("point", point_of(x=1, y=2, z=3)))
        self.check(box_of(x=(1, 1), y=(2, 2), z=(3, 3)), "x + y > z",
                   ("proof", rows_step((1, 1), (3, 1), (4, 1), (6, 1))))

    def test_sides_without_integers(self):
        self.check(box_of(x=(2, 1)), "", ("proof", rows_step((0, 1), (1, 1))))

    def test_against_a_plain_search(self):
        counts = {"point": 0, "rows": 0, "split": 0, "never": 0}
        for box, rows in some_boxes(152, 400) + hard_boxes(154, 200):
            before = deepcopy(rows)
            word, found = decide_whole(box, rows)
            self.assertEqual(rows, before)
            self.assertEqual((word, found), whole_found(box, rows)[0], (box, rows))
            points = [point for point in whole_points(box) if is_in(box, point) and all_true_at(rows, point)]
            if word == "point":
                self.assertIn(found, points)
            else:
                self.assertEqual((word, points), ("proof", []))
                self.assertIsNone(flaw_of_whole(box, rows, found))
            counts[word if word == "point" else found[0]] += 1
        self.assertGreater(min(counts.values()), 20, counts)


class Limits(unittest.TestCase):
    def test_just_kept(self):
        for word, count, box, text in LONG:
            found = whole_found(box, rows_of(text), 1000)
            self.assertEqual((found[0][0], found[1]), (word, count))
            self.assertEqual(decide_whole(box, rows_of(text)), found[0])
            if word == "proof":
                self.assertIsNone(flaw_of_whole(box, rows_of(text), found[0][1]))
            else:
                self.assertTrue(is_in(box, found[0][1]) and all_true_at(rows_of(text), found[0][1]))

    def test_just_broken(self):
        for word, count, box, text in TOO_LONG:
            found = whole_found(box, rows_of(text), 1000)
            self.assertEqual((found[0][0], found[1]), (word, count))
            with self.assertRaises(FormulaError) as caught:
                decide_whole(box, rows_of(text))
            self.assertEqual((caught.exception.place, caught.exception.what), (0, "too many steps"))

    def test_never_goes_ahead(self):
        for _, _, box, text in TOO_LONG:
            rows = rows_of(text)[:1] + rows_of("x = 1/2")
            self.assertEqual(decide_whole(box, rows), ("proof", ("never", 1)))


class Flaws(unittest.TestCase):
    BOX = box_of(x=(0, 2), y=(0, 0))
    RIGHT = ("split", "x", 0, rows_step((1, 2), (3, 1), (4, -1)), rows_step((0, 2), (2, 1), (4, 1)))

    def check(self, text, proof, path, what, box=BOX):
        self.assertEqual(flaw_of_whole(box, rows_of(text), proof), (path, what), (text, proof))

    def check_none(self, text, proof, box=BOX):
        self.assertIsNone(flaw_of_whole(box, rows_of(text), proof), (text, proof))

    def test_right(self):
        self.check_none("2 x + y = 1", self.RIGHT)
        self.check_none("x = 1/2", ("never", 0))
        self.check_none("x <= 1; y = 1/2; x = 1/2", ("never", 2))
        self.check_none("x < 0", rows_step((0, 1), (4, 1)))
        self.check_none("x < 0", rows_step((0, 2), (4, 2)))
        self.check_none("x > 1/3; x < 2/3", rows_step((4, 1), (5, 1)))
        self.check_none("", rows_step((0, 1), (1, 1)), box_of(x=(3, 2)))

    def test_right_though_not_as_decide_whole_tells(self):
        below, above = rows_step((0, 1), (4, 1)), rows_step((0, 1), (4, 1))
        self.check_none("x < 0", ("split", "x", 1, below, above))
        self.check_none("x < 0", ("split", "x", 1, ("split", "x", 0, below, below), above))
        self.check_none("x < 0; y = 1/2", ("never", 1))
        # The split of a box with a row that rounds to None: only a step `never` is left.
        self.check_none("x < 0; y = 1/2", ("split", "x", 1, ("never", 1), ("never", 1)))

    def test_no_such_row(self):
        for index in (-1, -2, 2, 3, 10 ** 20):
            self.check("x = 1/2; x = 1/2", ("never", index), (), "no such row")
        self.check("", ("never", 0), (), "no such row")
        self.check("2 x + y = 1", ("split", "x", 0, self.RIGHT[3], ("never", 1)), (1,), "no such row")

    def test_not_never(self):
        for text in ("x = 1", "x <= 1/2", "x < 1/2", "0 < 0", "0 = 1", "x > 7/2"):
            self.check(text, ("never", 0), (), "not never")
            self.check(f"x = 1/2; {text}", ("never", 1), (), "not never")

    def test_no_such_unknown(self):
        for name in ("z", "a", "xx", "", "X"):
            self.check("2 x + y = 1", ("split", name, 0, *self.RIGHT[3:]), (), "no such unknown")
            self.check("2 x + y = 1", ("split", name, 99, *self.RIGHT[3:]), (), "no such unknown")

    def test_outside(self):
        for k in (-1, -2, 2, 3, 99, -10 ** 20):
            self.check("2 x + y = 1", ("split", "x", k, *self.RIGHT[3:]), (), "outside")
        for k in (-1, 0, 1):
            self.check("2 x + y = 1", ("split", "y", k, *self.RIGHT[3:]), (), "outside")
        box = box_of(x=(-3, -1))
        below = rows_step((1, 1), (2, 1))
        for k in (-3, -2):
            self.check_none("x > 0", ("split", "x", k, below, below), box)
        for k in (-4, -1, 0, 1):
            self.check("x > 0", ("split", "x", k, below, below), (), "outside", box)

    def test_outside_of_the_box_that_is_left(self):
        below = rows_step((0, 1), (4, 1))
        self.check_none("x < 0", ("split", "x", 0, below, ("split", "x", 1, below, below)))
        self.check("x < 0", ("split", "x", 0, below, ("split", "x", 0, below, below)), (1,), "outside")
        self.check("x < 0", ("split", "x", 0, ("split", "x", 0, below, below), below), (0,), "outside")
        self.check("x < 0", ("split", "x", 1, ("split", "x", 1, below, below), below), (0,), "outside")
        self.check("x < 0", ("split", "x", 0, below, ("split", "x", 1, below, ("split", "x", 1, below, below))),
                   (1, 1), "outside")

    def test_not_rounded(self):
        for proof in (rows_step(), rows_step((0, 1)), rows_step((0, 1), (4, 1)), rows_step((99, 1))):
            self.check("x < 0; x = 1/2", proof, (), "not rounded")
        self.check("x < 0; y = 1/2", ("split", "x", 1, rows_step((0, 1), (4, 1)), ("never", 1)), (0,), "not rounded")

    def test_no_paper(self):
        for pairs in ((), ((0, 1),), ((4, 1),), ((0, 1), (4, 2)), ((4, 1), (0, 1)), ((0, 1), (4, 1), (4, 1)),
                      ((0, -1), (4, -1)), ((0, 1), (4, 1), (5, 0)), ((-1, 1), (0, 1)), ((0, 1), (5, 1)),
                      ((1, 1), (4, 1))):
            self.check("x < 0", rows_step(*pairs), (), "no paper")
        self.check("2 x + y = 1", rows_step((1, 2), (3, 1), (4, -1)), (), "no paper")
        self.check("2 x + y = 1", ("split", "x", 0, self.RIGHT[4], self.RIGHT[4]), (0,), "no paper")
        self.check("2 x + y = 1", ("split", "x", 0, self.RIGHT[3], self.RIGHT[3]), (1,), "no paper")
        self.check("2 x + y = 1", ("split", "x", 1, *self.RIGHT[3:]), (0,), "no paper")

    def test_the_system_of_the_box(self):
        # The rows in the order of the box, low ahead of high, and the rounded rows behind them.
        box = box_of(a=(1, 2), x=(3, 4), z=(5, 6))
        system = rows_of("a >= 1; a <= 2; x >= 3; x <= 4; z >= 5; z <= 6; a + x + z <= 8")
        rows = rows_of("2 a + 2 x + 2 z < 18")
        self.assertEqual(box_rows(box, rows), system)
        paper = rows_step((0, 1), (2, 1), (4, 1), (6, 1))[1]
        self.assertIs(refutes(system, paper), True)
        self.assertIsNone(flaw_of_whole(box, rows, ("rows", paper)))
        self.assertEqual(decide_whole(box, rows), ("proof", ("rows", paper)))
        self.assertEqual([format_row(some_row) for some_row in system[:2]], ["-a <= -1", "a <= 2"])

    def test_the_first_wrong_step(self):
        wrong, other = ("never", 9), ("never", 0)
        right = rows_step((0, 1), (4, 1))
        self.check("x < 0", ("split", "x", 1, wrong, other), (0,), "no such row")
        self.check("x < 0", ("split", "x", 1, right, other), (1,), "not never")
        self.check("x < 0", ("split", "x", 2, wrong, other), (), "outside")
        self.check("x < 0", ("split", "z", 2, wrong, other), (), "no such unknown")
        self.check("x < 0", ("split", "x", 1, ("split", "x", 0, right, wrong), other), (0, 1), "no such row")
        self.check("x < 0", ("split", "x", 1, ("split", "x", 5, right, wrong), other), (0,), "outside")
        self.check("x < 0", ("split", "x", 0, right, ("split", "x", 1, right, wrong)), (1, 1), "no such row")

    def test_proofs_of_other_rows(self):
        counts = [0, 0]
        for box, rows in some_boxes(153, 300):
            word, found = decide_whole(box, rows)
            if word == "proof" and len(rows) > 1:
                flaw = flaw_of_whole(box, rows[1:] + rows[:1], found)
                counts[flaw is None] += 1
                if flaw is not None:
                    self.assertTrue(set(flaw[0]) <= {0, 1})
                    self.assertIn(flaw[1], ("not never", "no paper", "not rounded"))
        self.assertGreater(counts[0], 30)

    def test_a_deep_proof(self):
        proof = rows_step((0, 1), (2, 1))
        for k in range(1500):
            proof = ("split", "x", 1500 - k - 1, rows_step((0, 1), (2, 1)), proof)
        self.check_none("x < 0", proof, box_of(x=(0, 1500)))

    def test_nothing_is_modified(self):
        rows = rows_of("2 x + y = 1")
        flaw_of_whole(self.BOX, rows, self.RIGHT)
        decide_whole(self.BOX, rows)
        self.assertEqual(rows, rows_of("2 x + y = 1"))


if __name__ == "__main__":
    unittest.main()
