"""Derived rows, which are pairs of a row and its paper, and the elimination of unknowns from lists of them."""

from linpapers.numbers import MINUS_ONE, ONE, ZERO, compare, over, times
from linpapers.pairs import added_up, amount_of, multiplied
from linpapers.papers import sum_of
from linpapers.rows import holds, normal, normal_factor


def derived(system):
    """Return the rows of a system as derived rows."""
    return [(some_row, ((index, ONE),)) for index, some_row in enumerate(system)]


def cleaned(rows):
    """Return the derived rows without those that hold everywhere or say no more than another one."""
    places = {}
    for place, (some_row, _) in enumerate(rows):
        parts, sign, bound = some_row
        if not parts and holds(some_row, ()):
            continue
        key = (parts, bound) if sign == "=" else (parts, None)
        if key not in places or _is_stronger(some_row, rows[places[key]][0]):
            places[key] = place
    return [rows[place] for place in sorted(places.values())]


def _is_stronger(first, second):
    """Tell whether a row says more than another one with the same parts."""
    order = compare(first[2], second[2])
    return order < 0 or (order == 0 and first[1] == "<" and second[1] == "<=")


def eliminated(rows, unknown):
    """Return the derived rows that are left when an unknown is eliminated from derived rows."""
    for place, one in enumerate(rows):
        if one[0][1] == "=" and _amount(one, unknown) != ZERO:
            return _with_substitution(rows, place, unknown)
    return _with_pairs(rows, unknown)


def _with_substitution(rows, place, unknown):
    """Return the other rows without an unknown that the row at a place, which has the sign =, has."""
    equality = rows[place]
    divisor = _amount(equality, unknown)
    left = []
    for other in rows[:place] + rows[place + 1:]:
        amount = _amount(other, unknown)
        if amount == ZERO:
            left.append(other)
        else:
            left.append(_combined(other, ONE, equality, over(times(amount, MINUS_ONE), divisor)))
    return left


def _with_pairs(rows, unknown):
    """Return the rows without an unknown, and the sums without it of two rows each that have it."""
    amounts = [_amount(one, unknown) for one in rows]
    left = [one for one, amount in zip(rows, amounts) if amount == ZERO]
    for first, above in zip(rows, amounts):
        if compare(above, ZERO) <= 0:
            continue
        for second, below in zip(rows, amounts):
            if compare(below, ZERO) < 0:
                left.append(_combined(first, over(ONE, above), second, over(MINUS_ONE, below)))
    return left


def _amount(derived_row, unknown):
    """Return the number of an unknown in a derived row."""
    return amount_of(derived_row[0][0], unknown)


def _combined(first, factor, second, other_factor):
    """Return the derived row that is the sum of multiples of two derived rows, made normal."""
    total = sum_of([first[0], second[0]], ((0, factor), (1, other_factor)))
    scale = normal_factor(total)
    paper = multiplied(first[1], times(factor, scale)) + multiplied(second[1], times(other_factor, scale))
    return (normal(total), added_up(paper))
