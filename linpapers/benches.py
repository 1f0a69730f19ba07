"""Benches: formulas that are told level by level, what follows from them, and how all that is taken back."""

from linpapers.errors import BenchError
from linpapers.limits import FACTS, LEVELS
from linpapers.proofs import decide, follows


class Bench:
    """Facts, which are formulas that were told, in levels."""

    def __init__(self):
        self._facts = ()
        # For each level the number of its facts.
        self._sizes = (0,)
        # For all that was done and not taken back its entry, and the facts and sizes ahead of it.
        self._done = ()

    @property
    def facts(self):
        """Return the list of all facts."""
        return list(self._facts)

    @property
    def levels(self):
        """Return the list of the numbers of facts in each level."""
        return list(self._sizes)

    @property
    def log(self):
        """Return the list of the entries of all that was done and not taken back."""
        return [entry for entry, _, _ in self._done]

    def tell(self, formula):
        """Add a fact to the newest level; return whether some point makes all facts true now."""
        if len(self._facts) == FACTS:
            raise BenchError("too many facts")
        facts = self._facts + (formula,)
        # Ahead of the change, for it may raise an error.
        word, _ = decide(list(facts))
        self._change(("tell", formula), facts, self._sizes[:-1] + (self._sizes[-1] + 1,))
        return word == "point"

    def push(self):
        """Begin a new level; return the number of levels."""
        if len(self._sizes) == LEVELS:
            raise BenchError("too many levels")
        self._change(("push",), self._facts, self._sizes + (0,))
        return len(self._sizes)

    def pop(self):
        """Drop the newest level with its facts; return the number of levels."""
        if len(self._sizes) == 1:
            raise BenchError("first level")
        left = len(self._facts) - self._sizes[-1]
        self._change(("pop",), self._facts[:left], self._sizes[:-1])
        return len(self._sizes)

    def ask(self, formula):
        """Return True if a formula follows from all facts, False if its `not` does, and otherwise None."""
        facts = list(self._facts)
        if _is_proved(facts, formula):
            return True
        if _is_proved(facts, ("not", formula)):
            return False
        return None

    def grounds(self, formula):
        """Return the numbers of facts from which a formula follows, and not without one of them, or None."""
        if not _is_proved(list(self._facts), formula):
            return None
        left = list(range(len(self._facts)))
        for number in range(len(self._facts)):
            others = [other for other in left if other != number]
            if _is_proved([self._facts[other] for other in others], formula):
                left = others
        return left

    def undo(self):
        """Take back what was done last and not taken back; return its name, or False if there is nothing."""
        if not self._done:
            return False
        entry, self._facts, self._sizes = self._done[-1]
        self._done = self._done[:-1]
        return entry[0]

    def branch(self):
        """Return a new bench that is like this one, also in what can be taken back."""
        other = Bench()
        other._facts = self._facts
        other._sizes = self._sizes
        other._done = self._done
        return other

    def _change(self, entry, facts, sizes):
        """Do what an entry says, which leads to facts and the sizes of levels."""
        self._done = self._done + ((entry, self._facts, self._sizes),)
        self._facts = facts
        self._sizes = sizes

    def __len__(self):
        return len(self._facts)

    def __iter__(self):
        return iter(self._facts)

    def __contains__(self, x):
        return x in self._facts

    def __eq__(self, other):
        if not isinstance(other, Bench):
            return NotImplemented
        return self._facts == other._facts and self._sizes == other._sizes


def _is_proved(facts, formula):
    """Tell whether a formula follows from facts."""
    word, _ = follows(facts, formula)
    return word == "proof"


def replayed(log):
    """Return a new bench on which the entries of a log were done."""
    bench = Bench()
    for entry in log:
        if entry[0] == "tell":
            bench.tell(entry[1])
        elif entry[0] == "push":
            bench.push()
        else:
            bench.pop()
    return bench
