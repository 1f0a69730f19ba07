"""What a system says without some of its unknowns, and how its points are completed by these."""

from linpapers.elimination import cleaned, derived, eliminated
from linpapers.numbers import ZERO
from linpapers.rows import is_point, unknowns
from linpapers.systems import completed


def projection(system, names):
    """Return the derived rows that are left when some unknowns are eliminated from a system."""
    return _lists(system, sorted(names))[-1]


def lifted(system, names, point):
    """Return a point of a system that differs from a point in the numbers of some unknowns alone, or None."""
    ordered = sorted(names)
    lists = _lists(system, ordered)
    kept = _kept(system, names, point)
    if not is_point([some_row for some_row, _ in lists[-1]], kept):
        return None
    return completed(lists, ordered, kept)


def _lists(system, names):
    """Return the cleaned lists of the elimination of all of some unknowns, also behind a row that holds nowhere."""
    lists = [cleaned(derived(system))]
    for name in names:
        lists.append(cleaned(eliminated(lists[-1], name)))
    return lists


def _kept(system, names, point):
    """Return a point without some unknowns, and with 0 for the other unknowns of a system that it does not have."""
    numbers = {name: ZERO for name in unknowns(system)}
    numbers.update(dict(point))
    return tuple([(name, numbers[name]) for name in sorted(numbers) if name not in names])
