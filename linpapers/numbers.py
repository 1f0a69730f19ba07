"""Exact fractions: pairs (top, bottom) in lowest terms, with a bottom of at least 1."""

from math import gcd, lcm

from linpapers.errors import NumberError

ZERO = (0, 1)
ONE = (1, 1)
MINUS_ONE = (-1, 1)


def number(top, bottom):
    """Return the number that is top / bottom."""
    if bottom == 0:
        raise NumberError()
    common = gcd(top, bottom)
    # Divided by a common divisor below 0, a bottom below 0 comes out above it.
    if bottom < 0:
        common = -common
    return (top // common, bottom // common)


def plus(first, second):
    """Return the sum of two numbers."""
    top, bottom = first
    other_top, other_bottom = second
    return number(top * other_bottom + other_top * bottom, bottom * other_bottom)


def minus(first, second):
    """Return the first number less the second one."""
    top, bottom = first
    other_top, other_bottom = second
    return number(top * other_bottom - other_top * bottom, bottom * other_bottom)


def times(first, second):
    """Return the product of two numbers."""
    return number(first[0] * second[0], first[1] * second[1])


def over(first, second):
    """Return the first number divided by the second one."""
    # A second number 0 comes to a bottom of 0, which number refuses.
    return number(first[0] * second[1], first[1] * second[0])


def compare(first, second):
    """Return -1, 0 or 1: the first number is less than, equal to, or greater than the second."""
    left = first[0] * second[1]
    right = second[0] * first[1]
    if left < right:
        return -1
    if left > right:
        return 1
    return 0


def whole_factor(values):
    """Return the number above 0 that makes numbers, not all 0, integers without a common divisor above 1."""
    common, multiple = 0, 1
    for top, bottom in values:
        common = gcd(common, top)
        multiple = lcm(multiple, bottom)
    # Multiplied by multiple, the numbers get no further common divisor: in lowest
    # terms, each prime of it misses the top of a number that has it most often below.
    return number(multiple, common)


def simplest_between(lower, lower_in, upper, upper_in):
    """Return the simplest number between two bounds (None is no bound), or None if there is none."""
    if lower is not None and upper is not None:
        order = compare(lower, upper)
        if order == 0 and lower_in and upper_in:
            return lower
        if order >= 0:
            return None
    if _is_above(ZERO, lower, lower_in) and _is_below(ZERO, upper, upper_in):
        return ZERO
    if lower is not None and compare(lower, ZERO) >= 0:
        return _simplest_above_zero(lower, lower_in, upper, upper_in)
    # Now all numbers between the bounds are below 0: look among their opposites.
    return _opposite(_simplest_above_zero(_opposite(upper), upper_in, _opposite(lower), lower_in))


def _is_above(value, lower, lower_in):
    """Tell whether a number is on the right side of a lower bound."""
    if lower is None:
        return True
    order = compare(value, lower)
    return order > 0 or (order == 0 and lower_in)


def _is_below(value, upper, upper_in):
    """Tell whether a number is on the right side of an upper bound."""
    if upper is None:
        return True
    order = compare(value, upper)
    return order < 0 or (order == 0 and upper_in)


def _opposite(value):
    """Return the number with the other sign, or None for no bound."""
    if value is None:
        return None
    return (-value[0], value[1])


def _simplest_above_zero(lower, lower_in, upper, upper_in):
    """Return the simplest number between two bounds, of which lower is at least 0 and less than upper."""
    # Where no integer lies between the bounds, all numbers between them are one and the
    # same integer plus 1 / rest, and the simplest rest makes the simplest number. A loop
    # and not a recursion, for long bounds may need thousands of such steps.
    wholes = []
    while True:
        least = _least_integer(lower, lower_in)
        if _is_below((least, 1), upper, upper_in):
            return _put_together(wholes, least)
        whole = least - 1
        wholes.append(whole)
        lower, lower_in, upper, upper_in = _rest(upper, whole), upper_in, _rest(lower, whole), lower_in


def _least_integer(lower, lower_in):
    """Return the least integer on the right side of a lower bound."""
    top, bottom = lower
    if bottom == 1 and lower_in:
        return top
    return top // bottom + 1


def _rest(bound, whole):
    """Return the number whose 1 / number is the bound less an integer, or None if this is 0."""
    top, bottom = bound
    if top == whole * bottom:
        return None
    # What was in lowest terms stays so.
    return (bottom, top - whole * bottom)


def _put_together(wholes, last):
    """Return wholes[0] + 1 / (wholes[1] + 1 / (.. + 1 / last))."""
    top, bottom = last, 1
    for whole in reversed(wholes):
        top, bottom = whole * top + bottom, top
    return (top, bottom)
