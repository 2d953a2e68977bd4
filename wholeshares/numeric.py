"""Integers, counts and numbers: what they are, and arithmetic with numbers."""

from math import gcd, lcm


def is_int(value):
    """Return True if the value is an integer."""
    # Python takes True and False for ints, the document does not.
    return isinstance(value, int) and not isinstance(value, bool)


def is_count(value):
    """Return True if the value is an integer of at least 0."""
    return is_int(value) and value >= 0


def is_number(value):
    """Return True if the value is an integer p or a pair (p, q) that stands for p / q."""
    if isinstance(value, tuple) and len(value) == 2:
        return is_int(value[0]) and is_int(value[1]) and value[1] >= 1
    return is_int(value)


def is_positive(value):
    """Return True if the value is a number greater than 0."""
    return is_number(value) and as_pair(value)[0] > 0


def as_pair(number):
    """Return a number as a pair, which need not be in lowest terms."""
    return number if isinstance(number, tuple) else (number, 1)


def lowest(number):
    """Return a number as a pair in lowest terms."""
    top, bottom = as_pair(number)
    common = gcd(top, bottom)
    return (top // common, bottom // common)


def quotient(pair, other_pair):
    """Return a number of at least 0 divided by another one.

    The bottom of the result is 0 if the divisor is 0.
    """
    return (pair[0] * other_pair[1], pair[1] * other_pair[0])


def is_less(pair, other_pair):
    """Return True if the number of a pair is less than that of the other pair.

    A positive top over the bottom 0 counts as greater than every number.
    """
    return pair[0] * other_pair[1] < other_pair[0] * pair[1]


def common_bottom(pairs):
    """Return the least integer of which the bottoms of all pairs are divisors."""
    common = 1
    for _, bottom in pairs:
        common = lcm(common, bottom)
    return common


def in_integers(numbers):
    """Return integers that are in the same proportion as these numbers."""
    pairs = [as_pair(number) for number in numbers]
    common = common_bottom(pairs)
    return [top * (common // bottom) for top, bottom in pairs]


def as_inverse(number):
    """Return 1 divided by a positive number, as a pair."""
    top, bottom = as_pair(number)
    return (bottom, top)
