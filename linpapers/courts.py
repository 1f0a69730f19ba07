"""Claims: answers to questions with a point or a paper each, and whether they hold."""

from linpapers.formulas import is_true, plain, unknowns_of
from linpapers.interpolants import interpolant
from linpapers.proofs import decide, flaw_of_proof, follows
from linpapers.rows import is_point
from linpapers.wholes import decide_whole, flaw_of_whole

# The words with which proofs, whole proofs and formulas begin. A claim may have the paper of another
# word, or of another question, which is not gone through then: the claim does not hold.
_PROOFS = ("rows", "false", "and", "or")
_WHOLE_PROOFS = ("never", "rows", "split")
_FORMULAS = ("row", "true", "false", "not", "and", "or")


def answer(question):
    """Return a claim about a question that holds."""
    word, paper = _answered(question)
    return (question, word, paper)


def _answered(question):
    """Return the word and the paper of a claim about a question that holds."""
    kind = question[0]
    if kind == "apart":
        return _answered_apart(question[1], question[2])
    if kind == "follows":
        found, paper = follows(question[1], question[2])
        return ("yes" if found == "proof" else "no", paper)
    if kind == "whole":
        found, paper = decide_whole(question[1], question[2])
    else:
        found, paper = decide(question[1])
    return ("yes" if found == "point" else "no", paper)


def _answered_apart(first, second):
    """Return the word and the paper of a claim about whether no point makes two formulas true."""
    formula = interpolant(first, second)
    if formula is None:
        return ("no", decide([first, second])[1])
    return ("yes", (formula, decide([first, ("not", formula)])[1], decide([formula, second])[1]))


def _makes_true(question, paper):
    """Tell whether a paper is a point that makes all formulas true."""
    return _looks_like_point(paper) and _all_true(question[1], paper)


def _proves_none(question, paper):
    """Tell whether a paper is a proof without a flaw that no point makes all formulas true."""
    return _is_proof(question[1], paper)


def _proves_following(question, paper):
    """Tell whether a paper is a proof without a flaw that a formula follows."""
    return _is_proof(question[1] + [("not", question[2])], paper)


def _tells_not_following(question, paper):
    """Tell whether a paper is a point that makes the formulas true, and the one that was to follow false."""
    return _looks_like_point(paper) and _all_true(question[1], paper) and not is_true(question[2], paper)


def _keeps_apart(question, paper):
    """Tell whether a paper is a formula between two others, with a proof without a flaw for either side."""
    if not _looks_like_triple(paper):
        return False
    _, first, second = question
    formula, proof, other_proof = paper
    known = [unknowns_of(plain(first)), unknowns_of(plain(second))]
    if not all([unknown in known[0] and unknown in known[1] for unknown in unknowns_of(formula)]):
        return False
    return _is_proof([first, ("not", formula)], proof) and _is_proof([formula, second], other_proof)


def _is_in_both(question, paper):
    """Tell whether a paper is a point that makes both of two formulas true."""
    return _looks_like_point(paper) and _all_true([question[1], question[2]], paper)


def _is_whole_point(question, paper):
    """Tell whether a paper is a whole point of a box with rows."""
    _, box, rows = question
    if not _looks_like_point(paper) or [unknown for unknown, _ in paper] != [unknown for unknown, _, _ in box]:
        return False
    for side, entry in zip(box, paper):
        _, low, high = side
        _, (top, bottom) = entry
        if bottom != 1 or not low <= top <= high:
            return False
    return is_point(rows, paper)


def _proves_no_whole(question, paper):
    """Tell whether a paper is a whole proof without a flaw that a box with rows has no whole point."""
    return _begins(paper, _WHOLE_PROOFS) and flaw_of_whole(question[1], question[2], paper) is None


def _all_true(formulas, point):
    """Tell whether a point makes all formulas true."""
    return all([is_true(formula, point) for formula in formulas])


def _is_proof(formulas, paper):
    """Tell whether a paper is a proof without a flaw for formulas."""
    return _begins(paper, _PROOFS) and flaw_of_proof(formulas, paper) is None


def _begins(paper, words):
    """Tell whether a paper is a tuple that begins with one of some words."""
    return isinstance(paper, tuple) and len(paper) > 0 and paper[0] in words


def _looks_like_point(paper):
    """Tell whether a paper is a tuple of pairs of ascending different unknowns and numbers."""
    if not isinstance(paper, tuple) or not all([_is_entry(entry) for entry in paper]):
        return False
    names = [unknown for unknown, _ in paper]
    return names == sorted(set(names))


def _looks_like_triple(paper):
    """Tell whether a paper is a tuple of a formula and two further values, and not a point."""
    if not isinstance(paper, tuple) or len(paper) != 3 or _looks_like_point(paper):
        return False
    return _begins(paper[0], _FORMULAS)


def _is_entry(entry):
    """Tell whether a value is a pair of an unknown and a number."""
    if not isinstance(entry, tuple) or len(entry) != 2 or not isinstance(entry[0], str):
        return False
    amount = entry[1]
    return isinstance(amount, tuple) and len(amount) == 2 and all([isinstance(part, int) for part in amount])


_CHECKS = {
    ("all true", "yes"): _makes_true,
    ("all true", "no"): _proves_none,
    ("follows", "yes"): _proves_following,
    ("follows", "no"): _tells_not_following,
    ("apart", "yes"): _keeps_apart,
    ("apart", "no"): _is_in_both,
    ("whole", "yes"): _is_whole_point,
    ("whole", "no"): _proves_no_whole,
}


def judge(claim):
    """Tell whether a claim holds."""
    question, word, paper = claim
    key = (question[0], word)
    if key not in _CHECKS:
        return False
    check = _CHECKS[key]
    return check(question, paper)


def judge_all(claims):
    """Return the indices of the claims that do not hold, in order."""
    return [index for index, claim in enumerate(claims) if not judge(claim)]
