"""Whether a point makes formulas true: the point, or the proof that there is none, which anyone can follow."""

from linpapers.errors import FormulaError
from linpapers.formulas import plain
from linpapers.limits import ROWS, UNKNOWNS
from linpapers.numbers import ZERO
from linpapers.papers import refutes
from linpapers.rows import unknowns
from linpapers.steps import first_flaw, searched
from linpapers.systems import solve

_OF_ANOTHER_KIND = {"false": "not false", "and": "not an and", "or": "not an or"}

# Stands for an assumed formula that is no row; no paper of a step has a pair about it.
_NO_ROW = ((), "<=", ZERO)


def decide(formulas):
    """Return ("point", point) with a point that makes formulas true, or ("proof", proof) that there is none."""
    return searched((_plain_forms(formulas), []), _looked_at, _closed)


def follows(formulas, formula):
    """Return ("proof", proof) if a formula follows from formulas, or ("point", point) with a point that tells not."""
    return decide(formulas + [("not", formula)])


def flaw_of_proof(formulas, proof):
    """Return the pair (path, what) of the first wrong step of a proof for formulas, or None."""
    return first_flaw(_plain_forms(formulas), proof, _checked)


def lists_behind(assumed, at):
    """Return the lists of assumed formulas with which the proofs in a step about an `and` or an `or` go."""
    word, parts = assumed[at]
    if word == "and":
        return [assumed + list(parts)]
    return [assumed + [part] for part in parts]


def proofs_in(step):
    """Return the tuple of the proofs in a step."""
    if step[0] == "and":
        return (step[2],)
    if step[0] == "or":
        return step[2]
    return ()


def system_of(assumed):
    """Return rows by the numbers of assumed formulas, so that papers can tell them by these."""
    return [formula[1] if formula[0] == "row" else _NO_ROW for formula in assumed]


def _plain_forms(formulas):
    """Return the list of the plain forms of formulas."""
    return [plain(formula) for formula in formulas]


def _looked_at(state):
    """Return what is told of assumed formulas, of which some were taken by their numbers: see searched."""
    assumed, taken = state
    numbers = [number for number, formula in enumerate(assumed) if formula[0] == "row"]
    system = [assumed[number][1] for number in numbers]
    if len(system) > ROWS or len(unknowns(system)) > UNKNOWNS:
        raise FormulaError(0, "too many rows")
    if ("false",) in assumed:
        return ("proof", ("false", assumed.index(("false",))))
    word, found = solve(system)
    if word == "paper":
        return ("proof", ("rows", tuple([(numbers[index], multiplier) for index, multiplier in found])))
    at = _first_to_take(assumed, taken)
    if at is None:
        return ("point", found)
    states = [(behind, taken + [at]) for behind in lists_behind(assumed, at)]
    return ("step", ((assumed[at][0], at), states))


def _first_to_take(assumed, taken):
    """Return the number of the first `and` that was not taken yet, or of the first such `or`, or None."""
    for word in ("and", "or"):
        for at, formula in enumerate(assumed):
            if formula[0] == word and at not in taken:
                return at
    return None


def _closed(step, proofs):
    """Return the proof that begins with a step about an `and` or an `or`."""
    word, at = step
    if word == "and":
        return ("and", at, proofs[0])
    return ("or", at, tuple(proofs))


def _checked(assumed, step):
    """Return what is wrong with a step, or None, and the pairs of assumed formulas and a proof in it."""
    what = _wrong_paper(assumed, step[1]) if step[0] == "rows" else _wrong_step(assumed, step)
    if what is not None or step[0] in ("rows", "false"):
        return (what, [])
    return (None, list(zip(lists_behind(assumed, step[1]), proofs_in(step))))


def _wrong_paper(assumed, paper):
    """Return what is wrong with the paper of a step, or None."""
    numbers = [number for number, _ in paper]
    if not all([0 <= number < len(assumed) for number in numbers]):
        return "no such formula"
    if not all([assumed[number][0] == "row" for number in numbers]):
        return "not a row"
    if not refutes(system_of(assumed), paper):
        return "no paper"
    return None


def _wrong_step(assumed, step):
    """Return what is wrong with a step about one assumed formula, or None."""
    word, at = step[0], step[1]
    if not 0 <= at < len(assumed):
        return "no such formula"
    if assumed[at][0] != word:
        return _OF_ANOTHER_KIND[word]
    if word == "or" and len(step[2]) != len(assumed[at][1]):
        return "other number of proofs"
    return None
