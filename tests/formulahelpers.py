"""What the tests of formulas share: formulas from texts, and a second telling of [21], [22], [25] and [27]."""

import random
from fractions import Fraction

from helpers import is_so, pair, paper_of, plain_solve, point_of, rows_of, true_at
from linpapers.formulas import read_formula
from linpapers.rows import row

TRUE, FALSE = ("true",), ("false",)


def formulas_of(text):
    """Return the formulas of texts with semicolons between them."""
    return [read_formula(part) for part in text.split(";")] if text else []


def row_of(text):
    """Return the formula of a text of a comparison."""
    return ("row", rows_of(text)[0])


def true_of(formula, point):
    """Tell whether a formula is true at a point."""
    word = formula[0]
    if word == "row":
        return true_at(formula[1], point)
    if word in ("true", "false"):
        return word == "true"
    if word == "not":
        return not true_of(formula[1], point)
    found = [true_of(part, point) for part in formula[1]]
    return False not in found if word == "and" else True in found


def pushed_in(formula, wanted=True):
    """Return the plain form of a formula, or of its `not`."""
    word = formula[0]
    if word == "not":
        return pushed_in(formula[1], not wanted)
    if wanted and word in ("row", "true", "false"):
        return formula
    if word in ("true", "false"):
        return FALSE if word == "true" else TRUE
    if word == "row":
        parts, sign, bound = formula[1]
        pairs = list(parts)
        if sign != "=":
            return ("row", row(pairs, {"<=": ">", "<": ">="}[sign], bound))
        return ("or", (("row", row(pairs, "<", bound)), ("row", row(pairs, ">", bound))))
    if not wanted:
        word = "or" if word == "and" else "and"
    return (word, tuple(pushed_in(part, wanted) for part in formula[1]))


class TooMany(Exception):
    """A search by the second telling came to a limit."""


def found_by(formulas):
    """Return what decide is to return, and the number of lists that were looked at."""
    count = [0]

    def look(assumed, left):
        count[0] += 1
        if count[0] > 300:
            raise TooMany("too many steps")
        rows = [(at, formula[1]) for at, formula in enumerate(assumed) if formula[0] == "row"]
        if len(rows) > 8 or len({name for _, (parts, _, _) in rows for name, _ in parts}) > 4:
            raise TooMany("too many rows")
        if FALSE in assumed:
            return "proof", ("false", assumed.index(FALSE))
        word, found = plain_solve([some_row for _, some_row in rows])
        if word == "paper":
            return "proof", ("rows", tuple((rows[at][0], multiplier) for at, multiplier in found))
        ands = [at for at in left if assumed[at][0] == "and"]
        if ands:
            word, found = go_on(assumed, assumed[ands[0]][1], left, ands[0])
            return word, found if word == "point" else ("and", ands[0], found)
        if not left:
            return word, found
        proofs = []
        for part in assumed[left[0]][1]:
            word, found = go_on(assumed, (part,), left, left[0])
            if word == "point":
                return word, found
            proofs.append(found)
        return "proof", ("or", left[0], tuple(proofs))

    def go_on(assumed, parts, left, at):
        more = to_take(parts, len(assumed))
        return look(assumed + list(parts), [other for other in left if other != at] + more)

    def to_take(parts, start):
        return [at for at, part in enumerate(parts, start=start) if part[0] in ("and", "or")]

    start = [pushed_in(formula) for formula in formulas]
    return look(start, to_take(start, 0)), count[0]


def is_right(assumed, proof):
    """Tell whether a proof is one for a list of plain formulas, as [25] tells."""
    word = proof[0]
    if word == "rows":
        return all(0 <= at < len(assumed) and assumed[at][0] == "row" for at, _ in proof[1]) and adds_up(
            assumed, proof[1])
    at = proof[1]
    if not 0 <= at < len(assumed) or assumed[at][0] != word:
        return False
    if word == "false":
        return True
    parts = assumed[at][1]
    if word == "and":
        return is_right(assumed + list(parts), proof[2])
    return len(parts) == len(proof[2]) and all(
        is_right(assumed + [part], inner) for part, inner in zip(parts, proof[2]))


def adds_up(assumed, paper):
    """Tell whether the rows that a paper names by their numbers come to something that is plainly false."""
    numbers, bound, signs = {}, Fraction(0), set()
    if [at for at, _ in paper] != sorted({at for at, _ in paper}):
        return False
    for at, multiplier in paper:
        parts, sign, own = assumed[at][1]
        factor = Fraction(*multiplier)
        if factor == 0 or (factor < 0 and sign != "="):
            return False
        for name, amount in parts:
            numbers[name] = numbers.get(name, 0) + factor * Fraction(*amount)
        bound += factor * Fraction(*own)
        signs.add(sign)
    sign = "<" if "<" in signs else "<=" if "<=" in signs else "="
    return not any(numbers.values()) and not is_so(0, sign, bound)


def some_formulas(seed, many, depth=3, names="xy", signs=("<=", "<", "="), most=3):
    """Return small formulas, the same ones for the same seed."""
    chosen = random.Random(seed)

    def made(deep):
        word = chosen.choice(("row",) * 3 + (("and", "or", "not") * 2 if deep else ()) + ("true", "false")[:deep])
        if word == "not":
            return ("not", made(deep - 1))
        if word in ("and", "or"):
            return (word, tuple(made(deep - 1) for _ in range(chosen.randint(2, most))))
        if word == "row":
            pairs = [(name, (chosen.choice((-2, -1, -1, 0, 0, 1, 1, 2)), 1)) for name in names]
            bound = pair(Fraction(chosen.randint(-3, 3), chosen.randint(1, 2)))
            return ("row", row(pairs, chosen.choice(signs), bound))
        return (word,)

    return [made(depth) for _ in range(many)]


def some_lists(seed, many, longest=4, **more):
    """Return small lists of formulas, the same ones for the same seed."""
    chosen = random.Random(seed)
    return [some_formulas(chosen.random(), chosen.randint(0, longest), **more) for _ in range(many)]


def grid(names="xy", values=(-2, -1, Fraction(-1, 2), 0, Fraction(1, 3), 1, 2)):
    """Return the points that give each name one of some values."""
    points = [{}]
    for name in names:
        points = [{**point, name: value} for point in points for value in values]
    return [point_of(**point) for point in points]


def rows_step(*pairs):
    """Return a step `rows` of pairs of a number of a formula and a fraction."""
    return ("rows", paper_of(*pairs))
