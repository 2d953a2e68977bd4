"""Fair divisions of items.

A division is fair if no claimant has an item that is due after the next item
of another claimant: then the items that were given are those that were due
first.
"""

from itertools import combinations

from wholeshares.checks import check_at_most, check_claims, check_count, check_division, check_rule
from wholeshares.dues import delays_of, last_dues, last_in_line, next_dues, who_is_due
from wholeshares.errors import NotFair
from wholeshares.limits import MOST_ITEMS


def is_fair(rule, claims, division):
    """Return True if the division is fair for these claims by this rule."""
    check_rule(rule)
    check_claims(claims)
    check_division(division, len(claims))
    delays = delays_of(claims)
    # A claimant's own next item is never due before its last one, so it need not be left out.
    return max(last_dues(rule, delays, division), default=0) <= min(next_dues(rule, delays, division))


def _with_one_more(counts, chosen):
    """Return the division that gives each chosen claimant one item more."""
    return tuple([count + 1 if claimant in chosen else count for claimant, count in enumerate(counts)])


def fair_divisions(rule, claims, items):
    """Return all fair divisions of this number of items, in descending order."""
    check_rule(rule)
    check_claims(claims)
    check_count(items)
    check_at_most(items, MOST_ITEMS)
    counts, tied = last_in_line(rule, claims, items)
    # Combinations come in ascending order, and an item for an earlier claimant is the greater division.
    return tuple([_with_one_more(counts, chosen) for chosen in combinations(tied, int(items - sum(counts)))])


def fair_division(rule, claims, items):
    """Return the first of the fair divisions."""
    return fair_divisions(rule, claims, items)[0]


def next_claimants(rule, claims, division):
    """Return the claimants who can get the next item so that the division is still fair."""
    if not is_fair(rule, claims, division):
        raise NotFair(division)
    return tuple(who_is_due(next_dues(rule, delays_of(claims), division)))
