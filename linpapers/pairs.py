"""Tuples of pairs with a number each: parts, by their unknowns, and papers, by their indices."""

from linpapers.numbers import ZERO, plus, times


def added_up(pairs):
    """Return pairs (name, number) in any order with ascending names, each once, without numbers that come to 0."""
    totals = {}
    for name, amount in pairs:
        totals[name] = plus(totals.get(name, ZERO), amount)
    return tuple([(name, totals[name]) for name in sorted(totals) if totals[name] != ZERO])


def multiplied(pairs, factor):
    """Return the pairs with their numbers multiplied by a number other than 0."""
    return tuple([(name, times(amount, factor)) for name, amount in pairs])


def amount_of(pairs, name):
    """Return the number that stands beside a name, 0 if the name is not there."""
    return dict(pairs).get(name, ZERO)
