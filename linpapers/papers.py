"""Papers over a system: their sums, what they refute, and what they show."""

from linpapers.numbers import ZERO, compare, plus, times
from linpapers.pairs import added_up, multiplied
from linpapers.rows import holds


def sum_of(system, paper):
    """Return the sum of a paper over a system, a row that need not be normal."""
    pairs, signs, total = [], [], ZERO
    for index, multiplier in paper:
        parts, sign, bound = system[index]
        pairs.extend(multiplied(parts, multiplier))
        signs.append(sign)
        total = plus(total, times(bound, multiplier))
    return (added_up(pairs), _sign_of_sum(signs), total)


def _sign_of_sum(signs):
    """Return the sign of the sum of rows with these signs."""
    if "<" in signs:
        return "<"
    if "<=" in signs:
        return "<="
    return "="


def is_paper(system, paper):
    """Tell whether a tuple of pairs (index, number) is a paper over a system."""
    before = -1
    for index, multiplier in paper:
        # An index below 0 would count from the end of the system.
        if index <= before or index >= len(system):
            return False
        side = compare(multiplier, ZERO)
        if side == 0 or (side < 0 and system[index][1] != "="):
            return False
        before = index
    return True


def refutes(system, paper):
    """Tell whether a paper over a system adds it up to a row that holds nowhere."""
    if not is_paper(system, paper):
        return False
    total = sum_of(system, paper)
    return not total[0] and not holds(total, ())


def shows(system, paper, some_row):
    """Tell whether a paper over a system adds it up to what a row says, or to more."""
    if not is_paper(system, paper):
        return False
    sum_parts, sum_sign, sum_bound = sum_of(system, paper)
    parts, sign, bound = some_row
    if sum_parts != parts:
        return False
    order = compare(sum_bound, bound)
    if sign == "=":
        return order == 0 and sum_sign == "="
    if sign == "<":
        return order < 0 or (order == 0 and sum_sign == "<")
    return order <= 0
