"""Checks of arguments: each raises the error of its argument, or returns nothing."""

from wholeshares.errors import InvalidClaimants, InvalidClaims, InvalidCount, InvalidDivision, NotARule, TooManyItems
from wholeshares.forms import is_number_of_claimants
from wholeshares.limits import MOST_CLAIMANTS
from wholeshares.numeric import is_count, is_positive
from wholeshares.rules import Rule


def check_rule(value):
    """Raise NotARule unless the value is a rule."""
    if not isinstance(value, Rule):
        raise NotARule(value)


def check_claims(value):
    """Raise InvalidClaims unless the value is a tuple of 1 to 6 positive numbers."""
    if not isinstance(value, tuple) or not 1 <= len(value) <= MOST_CLAIMANTS:
        raise InvalidClaims(None)
    for index, claim in enumerate(value):
        if not is_positive(claim):
            raise InvalidClaims(index)


def check_claimants(value, most=MOST_CLAIMANTS):
    """Raise InvalidClaimants unless the value is a number of claimants from 2 to the most."""
    if not is_number_of_claimants(value, most):
        raise InvalidClaimants(value)


def check_division(value, claimants):
    """Raise InvalidDivision unless the value is a tuple of one count for each claimant."""
    if not isinstance(value, tuple) or len(value) != claimants:
        raise InvalidDivision(None)
    for index, count in enumerate(value):
        if not is_count(count):
            raise InvalidDivision(index)


def check_count(value):
    """Raise InvalidCount unless the value is a count."""
    if not is_count(value):
        raise InvalidCount(value)


def check_at_most(items, limit):
    """Raise TooManyItems if there are more items than the limit."""
    if items > limit:
        raise TooManyItems(limit)
