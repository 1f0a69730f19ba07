"""Terms, rows and points: what a row says, its normal form, and where it holds."""

from linpapers.numbers import MINUS_ONE, ONE, ZERO, compare, minus, plus, times, whole_factor
from linpapers.pairs import added_up, multiplied

# The sign that says the same of the opposite numbers and the opposite bound.
_TURNED = {">=": "<=", ">": "<"}


def term(pairs, constant):
    """Return the term of pairs (unknown, number) in any order."""
    return (added_up(pairs), constant)


def row(pairs, sign, bound):
    """Return the normal form of the row of pairs (unknown, number) in any order."""
    parts = added_up(pairs)
    if sign in _TURNED:
        return normal((multiplied(parts, MINUS_ONE), _TURNED[sign], minus(ZERO, bound)))
    return normal((parts, sign, bound))


def normal(some_row):
    """Return the normal form of a row."""
    parts, sign, bound = some_row
    factor = normal_factor(some_row)
    return (multiplied(parts, factor), sign, times(bound, factor))


def normal_factor(some_row):
    """Return the number by which a row is multiplied to get its normal form."""
    parts, sign, bound = some_row
    if not parts and bound == ZERO:
        return ONE
    # Without parts it is the bound that becomes 1 or -1.
    amounts = [amount for _, amount in parts] or [bound]
    factor = whole_factor(amounts)
    if sign == "=" and compare(amounts[0], ZERO) < 0:
        return minus(ZERO, factor)
    return factor


def unknowns(system):
    """Return the ascending unknowns of the rows of a system."""
    return sorted({unknown for parts, _, _ in system for unknown, _ in parts})


def value(some_term, point):
    """Return the value of a term at a point."""
    parts, total = some_term
    known = dict(point)
    for unknown, amount in parts:
        total = plus(total, times(amount, known.get(unknown, ZERO)))
    return total


def holds(some_row, point):
    """Tell whether what a row says is true at a point."""
    parts, sign, bound = some_row
    order = compare(value((parts, ZERO), point), bound)
    if sign == "=":
        return order == 0
    if sign == "<":
        return order < 0
    return order <= 0


def is_point(system, point):
    """Tell whether all rows of a system hold at a point."""
    return all([holds(some_row, point) for some_row in system])


def opposites(some_row):
    """Return the one or two normal rows that together hold just where a row does not."""
    parts, sign, bound = some_row
    if sign == "<=":
        return [row(parts, ">", bound)]
    if sign == "<":
        return [row(parts, ">=", bound)]
    return [row(parts, "<", bound), row(parts, ">", bound)]
