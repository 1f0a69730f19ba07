"""Proofs in steps, each with the proofs in it: how they are searched for, and which step of them is wrong first."""

from linpapers.errors import FormulaError
from linpapers.limits import STEPS


def searched(state, look, close):
    """Return ("point", point) or ("proof", proof) for a state.

    look(state) returns one of these, too, or ("step", (step, states)), where the proof needs a proof for each of
    the states, in order; close(step, proofs) is then the proof that is made of these.
    """
    # A loop and not a recursion, for proofs may be hundreds of steps deep.
    begun = []
    for _ in range(STEPS):
        word, found = look(state)
        if word == "point":
            return ("point", found)
        if word == "step":
            step, states = found
            begun.append((step, states, []))
        else:
            begun, proof = _closed(begun, found, close)
            if not begun:
                return ("proof", proof)
        _, states, proofs = begun[-1]
        state = states[len(proofs)]
    raise FormulaError(0, "too many steps")


def _closed(begun, proof, close):
    """Return the steps that go on behind a proof in the last of those begun, and the last proof that was made."""
    while begun:
        step, states, proofs = begun[-1]
        begun, proofs = begun[:-1], proofs + [proof]
        if len(proofs) < len(states):
            return begun + [(step, states, proofs)], proof
        proof = close(step, proofs)
    return begun, proof


def first_flaw(state, proof, look):
    """Return the pair (path, what) of the first wrong step of a proof for a state, or None.

    look(state, step) returns what is wrong with a step, or None, and the pairs (state, proof) of the proofs in it.
    """
    waiting = [((), state, proof)]
    while waiting:
        path, here, step = waiting.pop()
        what, inner = look(here, step)
        if what is not None:
            return (path, what)
        for place, (behind, inner_proof) in reversed(list(enumerate(inner))):
            waiting.append((path + (place,), behind, inner_proof))
    return None
