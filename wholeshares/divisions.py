"""Fair divisions of items.

The mark m(k) divided by a claim says when the claimant's item with the number
k is due. A division is fair if no claimant has an item that is due after the
next item of another claimant: then the items that were given are those that
were due first.
"""

from itertools import combinations

from wholeshares.checks import check_at_most, check_claims, check_count, check_division, check_rule
from wholeshares.errors import NotFair
from wholeshares.limits import MOST_HEAD, MOST_ITEMS
from wholeshares.numeric import in_integers, is_less


def _due(rule, claim, number):
    """Return when the item with this number is due for this claim, an integer."""
    top, bottom = rule.mark(number)
    return (top, bottom * claim)


def _is_fair(rule, claims, division):
    given = [_due(rule, claim, count - 1) for claim, count in zip(claims, division) if count > 0]
    waiting = [_due(rule, claim, count) for claim, count in zip(claims, division)]
    # A claimant's own next item is never due before its last one, so it need not be left out.
    return all([not is_less(later, earlier) for earlier in given for later in waiting])


def _first_in_line(rule, claims, counts):
    """Return the claimants whose next items are due first, in ascending order."""
    waiting = [_due(rule, claim, count) for claim, count in zip(claims, counts)]
    first = waiting[0]
    for due in waiting:
        if is_less(due, first):
            first = due
    return [claimant for claimant, due in enumerate(waiting) if not is_less(first, due)]


def _sure_counts(claims, items):
    """Return counts that the claimants, whose claims are integers, reach before the last item is due.

    Until a time t at most t * c + MOST_HEAD items are due for a claim c. So the
    last item is not due before t = (items - MOST_HEAD * claimants) / sum(claims).
    Before this t, in turn, at least t * c - MOST_HEAD - 1 items are due for each
    claim c, rounded down.
    """
    spare = items - MOST_HEAD * len(claims)
    total = sum(claims)
    return [max(0, spare * claim // total - MOST_HEAD - 1) for claim in claims]


def _with_one_more(counts, chosen):
    """Return the division that gives each chosen claimant one item more."""
    return tuple([count + 1 if claimant in chosen else count for claimant, count in enumerate(counts)])


def is_fair(rule, claims, division):
    """Return True if the division is fair for these claims by this rule."""
    check_rule(rule)
    check_claims(claims)
    check_division(division, len(claims))
    return _is_fair(rule, in_integers(claims), division)


def fair_divisions(rule, claims, items):
    """Return all fair divisions of this number of items, in descending order."""
    check_rule(rule)
    check_claims(claims)
    check_count(items)
    check_at_most(items, MOST_ITEMS)
    shares = in_integers(claims)
    # The counts are near the result from the start, whatever the number of items.
    counts = _sure_counts(shares, items)
    first = _first_in_line(rule, shares, counts)
    while sum(counts) + len(first) < items:
        for claimant in first:
            counts[claimant] += 1
        first = _first_in_line(rule, shares, counts)
    # Those who are first in line at last are due at the same time: any of them may get the remaining
    # items. Combinations come in ascending order, and an item for an earlier claimant is the greater division.
    return tuple([_with_one_more(counts, chosen) for chosen in combinations(first, int(items - sum(counts)))])


def fair_division(rule, claims, items):
    """Return the first of the fair divisions."""
    return fair_divisions(rule, claims, items)[0]


def next_claimants(rule, claims, division):
    """Return the claimants who can get the next item so that the division is still fair."""
    check_rule(rule)
    check_claims(claims)
    check_division(division, len(claims))
    shares = in_integers(claims)
    if not _is_fair(rule, shares, division):
        raise NotFair(division)
    return tuple(_first_in_line(rule, shares, division))
