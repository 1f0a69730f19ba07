"""What several tests share: rows from texts, and a second telling of [11] to [15] and of the bounds of [17]."""

import random
from fractions import Fraction
from math import gcd, lcm

from linpapers.rows import row
from linpapers.rowtext import read_row


def rows_of(text):
    """Return the rows of comparisons with semicolons between them, without the limits of a system."""
    return [read_row(part) for part in text.split(";")] if text else []


def pair(fraction):
    return (Fraction(fraction).numerator, Fraction(fraction).denominator)


def point_of(**numbers):
    """Return a point, in order of its unknowns."""
    return tuple((name, pair(numbers[name])) for name in sorted(numbers))


def paper_of(*pairs):
    """Return a paper of pairs of an index and a fraction."""
    return tuple((index, pair(multiplier)) for index, multiplier in pairs)


def is_so(left, sign, right):
    return left == right if sign == "=" else left < right if sign == "<" else left <= right


def true_at(some_row, point):
    """Tell whether a row is true at a point."""
    parts, sign, bound = some_row
    place = {name: Fraction(*number) for name, number in point}
    return is_so(sum(Fraction(*number) * place.get(name, 0) for name, number in parts), sign, Fraction(*bound))


def all_true_at(system, point):
    return all(true_at(some_row, point) for some_row in system)


def total_of(system, paper):
    """Return the sum of a paper, as a dict, a sign and a fraction; fail if it is no paper."""
    numbers, bound, signs = {}, Fraction(0), set()
    assert [index for index, _ in paper] == sorted({index for index, _ in paper}), paper
    for index, multiplier in paper:
        assert 0 <= index < len(system), paper
        parts, sign, own = system[index]
        factor = Fraction(*multiplier)
        assert pair(factor) == multiplier and (factor > 0 or (factor < 0 and sign == "=")), paper
        for name, number in parts:
            numbers[name] = numbers.get(name, Fraction(0)) + factor * Fraction(*number)
        bound += factor * Fraction(*own)
        signs.add(sign)
    sign = "<" if "<" in signs else "<=" if "<=" in signs else "="
    return {name: number for name, number in numbers.items() if number}, sign, bound


def is_refuted(system, paper):
    """Tell whether a paper adds a system up to something that is plainly false."""
    numbers, sign, bound = total_of(system, paper)
    return not numbers and not is_so(0, sign, bound)


# A plain derived row is a list: a dict of numbers, a sign, a bound, and a dict of multipliers.

def plain_row(some_row, paper):
    parts, sign, bound = some_row
    return [{name: Fraction(*number) for name, number in parts}, sign, Fraction(*bound),
            {index: Fraction(*multiplier) for index, multiplier in paper}]


def told_row(plain):
    """Return the derived row of a plain one."""
    numbers, sign, bound, multipliers = plain
    parts = tuple((name, pair(numbers[name])) for name in sorted(numbers))
    return ((parts, sign, pair(bound)), paper_of(*sorted(multipliers.items())))


def wholes(fractions):
    """Return what makes fractions integers without a common divisor."""
    multiple = lcm(*[value.denominator for value in fractions])
    return Fraction(multiple, gcd(*[int(value * multiple) for value in fractions]))


def added(first, factor, second, other_factor):
    """Return the normal plain row of the sum of two multiples."""
    found = []
    for k in (0, 3):
        sums = {key: first[k].get(key, 0) * factor + second[k].get(key, 0) * other_factor
                for key in list(first[k]) + list(second[k])}
        found.append({key: value for key, value in sums.items() if value})
    bound = first[2] * factor + second[2] * other_factor
    signs = (first[1], second[1])
    sign = "<" if "<" in signs else "<=" if "<=" in signs else "="
    numbers, multipliers = found
    scale = Fraction(1)
    if numbers:
        scale = wholes(list(numbers.values())) * (-1 if sign == "=" and numbers[min(numbers)] < 0 else 1)
    elif bound:
        scale = 1 / (bound if sign == "=" else abs(bound))
    return [{key: value * scale for key, value in numbers.items()}, sign, bound * scale,
            {key: value * scale for key, value in multipliers.items()}]


def plain_eliminated(rows, name):
    equalities = [at for at, plain in enumerate(rows) if plain[1] == "=" and name in plain[0]]
    if equalities:
        pivot = rows[equalities[0]]
        return [plain if name not in plain[0] else added(plain, 1, pivot, -plain[0][name] / pivot[0][name])
                for at, plain in enumerate(rows) if at != equalities[0]]
    return [plain for plain in rows if name not in plain[0]] + [
        added(above, 1 / above[0][name], below, -1 / below[0][name])
        for above in rows if above[0].get(name, 0) > 0 for below in rows if below[0].get(name, 0) < 0]


def plain_cleaned(rows):
    left = []
    for at, plain in enumerate(rows):
        numbers, sign, bound, _ = plain
        others = [(k, other) for k, other in enumerate(rows) if k != at and other[0] == numbers]
        if sign == "=":
            beaten = any(other[1] == "=" and other[2] == bound and k < at for k, other in others)
        else:
            rank = (bound, sign == "<=", at)
            beaten = any(other[1] != "=" and (other[2], other[1] == "<=", k) < rank for k, other in others)
        if not beaten and (numbers or not is_so(0, sign, bound)):
            left.append(plain)
    return left


def plain_solve(system):
    """Return what solve is to return, but a point only as far as [15] tells it without the simplest numbers."""
    rows = plain_cleaned([plain_row(some_row, ((at, (1, 1)),)) for at, some_row in enumerate(system)])
    names = sorted({name for parts, _, _ in system for name, _ in parts})
    lists = [rows]
    for name in names + [None]:
        wrong = [plain for plain in rows if not plain[0]]
        if wrong:
            scale = wholes(list(wrong[0][3].values()))
            return "paper", paper_of(*[(at, scale * value) for at, value in sorted(wrong[0][3].items())])
        if name is not None:
            rows = plain_cleaned(plain_eliminated(rows, name))
            lists.append(rows)
    place = {}
    for at in reversed(range(len(names))):
        place[names[at]] = simplest([fitted(plain, names[at], place) for plain in lists[at] if names[at] in plain[0]])
    return "point", point_of(**place)


def fitted(plain, name, place):
    """Return what a plain row says of one unknown: the side of its limit, its sign and the limit."""
    numbers, sign, bound, _ = plain
    rest = bound - sum(number * place[other] for other, number in numbers.items() if other != name)
    return numbers[name] > 0, sign, rest / numbers[name]


def simplest(limits):
    """Return the simplest number within limits by trying all bottoms, and for each the tops nearest to 0."""
    bottom = 0
    while True:
        bottom += 1
        tops = {0}
        for _, _, limit in limits:
            near = limit * bottom // 1
            tops.update((near - 1, near, near + 1))
        fit = [top for top in tops if all(within(Fraction(top, bottom), *limit) for limit in limits)]
        if fit:
            return Fraction(min(fit, key=abs), bottom)


def within(value, is_upper, sign, limit):
    if sign == "=":
        return value == limit
    return is_so(value, sign, limit) if is_upper else is_so(limit, sign, value)


def plain_bound_row(system, some_term, side):
    """Return the plain row that tells a bound of a term ([17]), or None; the added row has the last index."""
    parts, constant = some_term
    rows = [plain_row(some_row, ((at, (1, 1)),)) for at, some_row in enumerate(system)]
    more = {name: -Fraction(*number) for name, number in parts}
    more["T"] = Fraction(1)
    rows.append(added([more, "=", Fraction(*constant), {len(system): Fraction(1)}], 1, [{}, "=", 0, {}], 1))
    names = sorted({name for plain in rows for name in plain[0]} - {"T"})
    rows = plain_cleaned(rows)
    for name in names:
        rows = plain_cleaned(plain_eliminated(rows, name))
    for numbers, sign, bound, multipliers in rows:
        if numbers.get("T") == side or sign == "=":
            turn = side * numbers["T"]
            return sign, bound * numbers["T"], {at: value * turn for at, value in multipliers.items()}
    return None


def some_systems(seed, many, names="xyz", most=5, signs=("<=", "<=", "<", "=")):
    """Return small systems, the same ones for the same seed."""
    chosen = random.Random(seed)
    systems = []
    for _ in range(many):
        system = []
        for _ in range(chosen.randint(0, most)):
            pairs = [(name, (chosen.choice((-3, -2, -1, -1, 0, 0, 1, 1, 2, 3)), 1)) for name in names]
            system.append(row(pairs, chosen.choice(signs), pair(Fraction(chosen.randint(-4, 4), chosen.randint(1, 2)))))
        systems.append(system)
    return systems
