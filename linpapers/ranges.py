"""What values a term has at the points of a system, with papers for its bounds, and rays where there are none."""

from linpapers.errors import NoPoints
from linpapers.numbers import MINUS_ONE, ONE, ZERO, times
from linpapers.pairs import multiplied
from linpapers.rows import row, unknowns
from linpapers.systems import has_points, solve, told_lists

# The further unknown t of the document, under a name that no unknown can have.
_FURTHER = "~"


def range_of(system, some_term):
    """Return the pair (lower, upper) of the bounds of a term, each a pair (value, reached) or None."""
    rows = _bound_rows(system, some_term)
    return (_bound(rows, MINUS_ONE), _bound(rows, ONE))


def upper_paper(system, some_term):
    """Return the paper that shows the upper bound of a term, or None if there is none."""
    return _paper(_bound_rows(system, some_term), ONE)


def lower_paper(system, some_term):
    """Return the paper that shows the lower bound of a term, or None if there is none."""
    return _paper(_bound_rows(system, some_term), MINUS_ONE)


def upper_ray(system, some_term):
    """Return the way along which a term gets as great as one likes, or None if it has an upper bound."""
    return _ray(system, some_term, ONE)


def lower_ray(system, some_term):
    """Return the way along which a term gets as little as one likes, or None if it has a lower bound."""
    return _ray(system, some_term, MINUS_ONE)


def _bound_rows(system, some_term):
    """Return the derived rows about t alone; the pair for the row that makes t the term is the last of each paper."""
    if not has_points(system):
        raise NoPoints()
    parts, constant = some_term
    added = row(multiplied(parts, MINUS_ONE) + ((_FURTHER, ONE),), "=", constant)
    extended = system + [added]
    names = [name for name in unknowns(extended) if name != _FURTHER]
    return told_lists(extended, names)[-1]


def _told(rows, side):
    """Return the bound of t above (side 1) or below (side -1), whether it is reached, and its paper, or None."""
    for (parts, sign, bound), paper in rows:
        # These rows are about t alone, and normal: its number is 1 or -1.
        amount = parts[0][1]
        if amount == side or sign == "=":
            return (times(bound, amount), sign != "<", multiplied(paper[:-1], times(side, amount)))
    return None


def _bound(rows, side):
    """Return the pair (value, reached) of a bound of t, or None."""
    told = _told(rows, side)
    if told is None:
        return None
    return told[:2]


def _paper(rows, side):
    """Return the paper of a bound of t without its pair for the added row, or None."""
    told = _told(rows, side)
    if told is None:
        return None
    return told[2]


def _ray(system, some_term, side):
    """Return the ray of a term up (side 1) or down (side -1), or None if there is a bound."""
    if _told(_bound_rows(system, some_term), side) is not None:
        return None
    flat = [(parts, "=" if sign == "=" else "<=", ZERO) for parts, sign, _ in system]
    along = row(some_term[0], ">=" if side == ONE else "<=", side)
    return solve(flat + [along])[1]
