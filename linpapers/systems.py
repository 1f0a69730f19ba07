"""Whether a system has points: its told point, or the paper that refutes it."""

from linpapers.elimination import cleaned, derived, eliminated
from linpapers.numbers import ZERO, compare, minus, over, simplest_between, whole_factor
from linpapers.pairs import amount_of, multiplied
from linpapers.rows import unknowns, value


def solve(system):
    """Return ("point", point) with the told point of a system, or ("paper", paper) with its refutation."""
    names = unknowns(system)
    lists = told_lists(system, names)
    paper = _refutation(lists[-1])
    if paper is not None:
        return ("paper", paper)
    return ("point", completed(lists, names, ()))


def has_points(system):
    """Tell whether a system has points."""
    return solve(system)[0] == "point"


def core(system):
    """Return the indices of rows that have no points together, or None if the system has points."""
    if has_points(system):
        return None
    left = list(range(len(system)))
    for index in range(len(system)):
        others = [other for other in left if other != index]
        if not has_points([system[other] for other in others]):
            left = others
    return left


def told_lists(system, names):
    """Return the cleaned lists of the elimination of some unknowns, up to the first one that refutes the system."""
    rows = cleaned(derived(system))
    lists = [rows]
    for name in names:
        if _refutation(rows) is not None:
            break
        rows = cleaned(eliminated(rows, name))
        lists.append(rows)
    return lists


def _refutation(rows):
    """Return the paper of the first row of a cleaned list that holds nowhere, with integers, or None."""
    for some_row, paper in rows:
        # Those without parts that hold were left out.
        if not some_row[0]:
            return multiplied(paper, whole_factor([multiplier for _, multiplier in paper]))
    return None


def completed(lists, names, point):
    """Return a point with the simplest numbers of further unknowns, where names[k] was eliminated from lists[k]."""
    for place in reversed(range(len(names))):
        point = point + ((names[place], _simplest(lists[place], names[place], point)),)
    return tuple(sorted(point))


def _simplest(rows, unknown, point):
    """Return the simplest number of an unknown with which, beside a point without it, all derived rows hold."""
    lower, lower_in, upper, upper_in = None, True, None, True
    for (parts, sign, bound), _ in rows:
        amount = amount_of(parts, unknown)
        if amount == ZERO:
            continue
        # The unknown counts as 0 in this value, for the point does not have it.
        limit = over(minus(bound, value((parts, ZERO), point)), amount)
        is_upper = compare(amount, ZERO) > 0
        if (is_upper or sign == "=") and _is_closer(limit, sign, upper, -1):
            upper, upper_in = limit, sign != "<"
        if (not is_upper or sign == "=") and _is_closer(limit, sign, lower, 1):
            lower, lower_in = limit, sign != "<"
    return simplest_between(lower, lower_in, upper, upper_in)


def _is_closer(limit, sign, bound, way):
    """Tell whether a limit leaves less than a bound (None is no bound), which lies its way (1 up, -1 down)."""
    if bound is None:
        return True
    order = compare(limit, bound)
    return order == way or (order == 0 and sign == "<")
