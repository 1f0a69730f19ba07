"""What follows from a system, with papers, and what tells two systems apart."""

from linpapers.errors import NoPoints
from linpapers.numbers import ONE, over
from linpapers.pairs import multiplied
from linpapers.rows import opposites, row
from linpapers.systems import has_points, solve


def follows(system, some_row):
    """Tell whether a normal row holds at all points of a system."""
    return not any([has_points(system + [opposite]) for opposite in opposites(some_row)])


def papers_of(system, some_row):
    """Return the tuple of the papers that show a normal row over a system, or None if it does not follow."""
    if not has_points(system):
        raise NoPoints()
    papers = [_paper_of(system, half) for half in _halves(some_row)]
    if None in papers:
        return None
    return tuple(papers)


def _halves(some_row):
    """Return the one row, or the two rows at most and at least, that say what a normal row says."""
    parts, sign, bound = some_row
    if sign == "=":
        return [row(parts, "<=", bound), row(parts, ">=", bound)]
    return [some_row]


def _paper_of(system, some_row):
    """Return the paper that shows a row with a sign other than = over a system with points, or None."""
    kind, found = solve(system + opposites(some_row))
    if kind == "point":
        return None
    # The last pair is that of the opposite, for without it there would be points.
    return multiplied(found[:-1], over(ONE, found[-1][1]))


def needed(system):
    """Return the indices of the rows that are left when those that follow from the others are left out in turn."""
    left = list(range(len(system)))
    for index in range(len(system)):
        others = [other for other in left if other != index]
        if follows([system[other] for other in others], system[index]):
            left = others
    return left


def are_alike(system, other):
    """Tell whether two systems have the same points."""
    return telling_point(system, other) is None


def telling_point(system, other):
    """Return the first told point of one of two systems at which a row of the other one does not hold, or None."""
    point = _point_outside(system, other)
    if point is not None:
        return point
    return _point_outside(other, system)


def _point_outside(system, other):
    """Return the first told point of a system with an opposite of a row of another one behind it, or None."""
    for some_row in other:
        for opposite in opposites(some_row):
            kind, found = solve(system + [opposite])
            if kind == "point":
                return found
    return None
