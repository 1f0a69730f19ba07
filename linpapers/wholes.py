"""Whether a box with rows has a whole point, of integers alone: the point, or the proof that there is none."""

from linpapers.numbers import ONE
from linpapers.papers import refutes
from linpapers.rows import row
from linpapers.steps import first_flaw, searched
from linpapers.systems import solve


def rounded(some_row):
    """Return the row with the same parts and an integer as bound that has the same whole points, or None."""
    parts, sign, (top, bottom) = some_row
    if not parts:
        return some_row
    if sign == "=":
        return some_row if bottom == 1 else None
    if sign == "<":
        # One less, so that a bound that is an integer is left out.
        return (parts, "<=", ((top - 1) // bottom, 1))
    return (parts, "<=", (top // bottom, 1))


def decide_whole(box, rows):
    """Return ("point", point) with a whole point of a box with rows, or ("proof", proof) that there is none."""
    for index, some_row in enumerate(rows):
        if rounded(some_row) is None:
            return ("proof", ("never", index))
    return searched((box, rows), _looked_at, _closed)


def flaw_of_whole(box, rows, proof):
    """Return the pair (path, what) of the first wrong step of a whole proof for a box with rows, or None."""
    return first_flaw((box, rows), proof, _checked)


def _system_of(box, rows):
    """Return the system of a box with rows, of which none rounds to None."""
    system = []
    for unknown, low, high in box:
        system.append(row([(unknown, ONE)], ">=", (low, 1)))
        system.append(row([(unknown, ONE)], "<=", (high, 1)))
    return system + [rounded(some_row) for some_row in rows]


def _halves(box, unknown, k):
    """Return the two boxes of a box that is split: an unknown is at most k in one, and above k in the other one."""
    below = [(name, low, k if name == unknown else high) for name, low, high in box]
    above = [(name, k + 1 if name == unknown else low, high) for name, low, high in box]
    return [tuple(below), tuple(above)]


def _looked_at(state):
    """Return what is told of a box with rows: see searched."""
    box, rows = state
    word, found = solve(_system_of(box, rows))
    if word == "paper":
        return ("proof", ("rows", found))
    for unknown, (top, bottom) in found:
        if bottom != 1:
            k = top // bottom
            return ("step", (("split", unknown, k), [(half, rows) for half in _halves(box, unknown, k)]))
    return ("point", found)


def _closed(step, proofs):
    """Return the whole proof that begins with a split."""
    return step + tuple(proofs)


def _checked(state, step):
    """Return what is wrong with a step, or None, and the pairs of a box with rows and a whole proof in it."""
    box, rows = state
    if step[0] == "never":
        return (_wrong_never(rows, step[1]), [])
    if step[0] == "rows":
        return (_wrong_paper(box, rows, step[1]), [])
    _, unknown, k, below, above = step
    what = _wrong_split(box, unknown, k)
    if what is not None:
        return (what, [])
    below_box, above_box = _halves(box, unknown, k)
    return (None, [((below_box, rows), below), ((above_box, rows), above)])


def _wrong_never(rows, index):
    """Return what is wrong with a step `never`, or None."""
    if not 0 <= index < len(rows):
        return "no such row"
    if rounded(rows[index]) is not None:
        return "not never"
    return None


def _wrong_split(box, unknown, k):
    """Return what is wrong with a step `split`, or None."""
    for name, low, high in box:
        if name == unknown:
            return None if low <= k < high else "outside"
    return "no such unknown"


def _wrong_paper(box, rows, paper):
    """Return what is wrong with a step `rows`, or None."""
    if None in [rounded(some_row) for some_row in rows]:
        return "not rounded"
    if not refutes(_system_of(box, rows), paper):
        return "no paper"
    return None
