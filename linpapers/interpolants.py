"""What two sides share that have no point in common, drawn out of the paper that shows that they have none."""

from linpapers.formulas import plain
from linpapers.papers import sum_of
from linpapers.proofs import decide, lists_behind, proofs_in, system_of
from linpapers.rows import holds, normal
from linpapers.systems import solve


def interpolant(first, second):
    """Return the told interpolant of two formulas, or None if some point makes both true."""
    word, found = decide([first, second])
    if word == "point":
        return None
    return _drawn([plain(first), plain(second)], [True, False], found)


def share(first, second):
    """Return the pair (row, paper) of what a system says against another one, or None if they share a point."""
    word, found = solve(first + second)
    if word == "point":
        return None
    paper = tuple([(index, multiplier) for index, multiplier in found if index < len(first)])
    return (sum_of(first, paper), paper)


def _drawn(assumed, sides, proof):
    """Return the formula that is drawn out of a proof for assumed formulas; sides tells which are of the first side."""
    word = proof[0]
    if word == "rows":
        return _drawn_from_paper(assumed, sides, proof[1])
    at = proof[1]
    if word == "false":
        return ("false",) if sides[at] else ("true",)
    drawn = []
    for behind, inner in zip(lists_behind(assumed, at), proofs_in(proof)):
        more = [sides[at]] * (len(behind) - len(assumed))
        drawn.append(_drawn(behind, sides + more, inner))
    if word == "and":
        return drawn[0]
    return ("or" if sides[at] else "and", tuple(drawn))


def _drawn_from_paper(assumed, sides, paper):
    """Return the formula of what the rows of the first side add up to in a paper."""
    total = sum_of(system_of(assumed), [(number, multiplier) for number, multiplier in paper if sides[number]])
    if total[0]:
        return ("row", normal(total))
    return ("true",) if holds(total, ()) else ("false",)
