"""The forms of values: every value may be passed, so nothing is asked of a value before its kind is known."""

from wholeshares.limits import MOST_CLAIMANTS
from wholeshares.numeric import is_count, is_int, is_positive


def is_tuple_of(value, length):
    """Return True if the value is a tuple of this length."""
    return isinstance(value, tuple) and len(value) == length


def is_word(value, words):
    """Return True if the value is one of these strings."""
    return isinstance(value, str) and value in words


def is_place(value, length):
    """Return True if the value is the place of an element in a tuple of this length."""
    return is_int(value) and 0 <= value < length


def is_claimant(value, claimants):
    """Return True if the value is one of so many claimants."""
    return is_place(value, claimants)


def is_number_of_claimants(value, most=MOST_CLAIMANTS):
    """Return True if the value is an integer from 2 to the most."""
    return is_int(value) and 2 <= value <= most


def is_division(value, claimants):
    """Return True if the value is a tuple of one count for each claimant."""
    return is_tuple_of(value, claimants) and all([is_count(count) for count in value])


def are_positive(value, claimants):
    """Return True if the value is a tuple of one positive number for each claimant."""
    return is_tuple_of(value, claimants) and all([is_positive(number) for number in value])
