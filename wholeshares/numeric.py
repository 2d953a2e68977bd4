"""Integers, counts and numbers: what they are, and arithmetic with numbers."""

from math import gcd


def is_int(value):
    """Return True if the value is an integer."""
    # Python takes True and False for ints, the document does not.
    return isinstance(value, int) and not isinstance(value, bool)


def is_count(value):
    """Return True if the value is an integer of at least 0."""
    return is_int(value) and value >= 0


def is_number(value):
    """Return True if the value is an integer p or a pair (p, q) that stands for p / q."""
    if isinstance(value, tuple) and len(value) == 2:
        return is_int(value[0]) and is_int(value[1]) and value[1] >= 1
    return is_int(value)


def lowest(number):
    """Return a number as a pair in lowest terms."""
    top, bottom = number if isinstance(number, tuple) else (number, 1)
    common = gcd(top, bottom)
    return (top // common, bottom // common)


def is_less(pair, other_pair):
    """Return True if the number of a pair is less than that of the other pair."""
    return pair[0] * other_pair[1] < other_pair[0] * pair[1]
