"""Comparisons of two rules over all possible claims.

For two claimants, a division of n items that gives claimant 0 k items is fair
if the ratio c[0] / c[1] is from the border k - 1 to the border k. The border k
is m(k) / m(n - 1 - k); the borders ascend.
"""

from wholeshares.checks import check_at_most, check_count, check_rule
from wholeshares.dues import items_at_0
from wholeshares.limits import MOST_COMPARED, MOST_HEAD
from wholeshares.numeric import is_less, quotient


def _check_rules(rule, other_rule):
    check_rule(rule)
    check_rule(other_rule)


def _ratio(rule, number, other_number):
    """Return the mark with one number divided by the mark with another one."""
    return quotient(rule.mark(number), rule.mark(other_number))


def _difference(rule, other_rule, items):
    """Return the triple of `first_difference` for two items or more, or None if there is none."""
    # Where the rules have different borders, the greater one is itself a ratio of claims at which
    # claimant 0 may get the count below the border by one of the rules only.
    for small in range(items // 2):
        large = items - 1 - small
        ratio, other_ratio = _ratio(rule, small, large), _ratio(other_rule, small, large)
        if is_less(ratio, other_ratio):
            return (items, (other_rule.mark(small), other_rule.mark(large)), (small, large + 1))
        if is_less(other_ratio, ratio):
            return (items, (rule.mark(small), rule.mark(large)), (small, large + 1))
    return None


def first_difference(rule, other_rule):
    """Return the least number of items, claims and a division where the rules differ, or None."""
    _check_rules(rule, other_rule)
    # A single item is due for both claimants at once if the first mark is 0, else first for the larger claim.
    if items_at_0(rule) != items_at_0(other_rule):
        return (1, ((1, 1), (2, 1)), (1, 0))
    # The marks with the numbers MOST_HEAD and MOST_HEAD + 1 stand behind all heads: their ratio tells different
    # offsets apart. If the offsets are equal, different marks have different ratios to the former one.
    for items in range(2, 2 * MOST_HEAD + 3):
        found = _difference(rule, other_rule, items)
        if found is not None:
            return found
    return None


def same_divisions(rule, other_rule):
    """Return True if the same divisions are fair by both rules, whatever is divided."""
    return first_difference(rule, other_rule) is None


def first_unkind(rule, other_rule):
    """Return the first pair of counts for which the rule is less kind to small claims, or None."""
    _check_rules(rule, other_rule)
    # If the rule has the greater offset, the two marks behind all heads are such a pair. If it has not,
    # any pair (k, l) with l > MOST_HEAD would mean that (k, MOST_HEAD) is such a pair, too.
    for large in range(1, MOST_HEAD + 2):
        for small in range(large):
            if is_less(_ratio(other_rule, small, large), _ratio(rule, small, large)):
                return (small, large)
    return None


def _borders(rule, items):
    return [_ratio(rule, number, items - 1 - number) for number in range(items)]


def _greatest_lead(borders, other_borders):
    """Return how many items more claimant 0 gets at most by the rule with the first borders."""
    most = passed = 0
    # The lead is greatest just above one of these borders, where the ratio is on no border.
    for count, border in enumerate(borders, start=1):
        while passed < len(other_borders) and not is_less(border, other_borders[passed]):
            passed += 1
        most = max(most, count - passed)
    return most


def most_apart(rule, other_rule, items):
    """Return how far apart the counts of claimant 0 in unique fair divisions by the rules can be."""
    _check_rules(rule, other_rule)
    check_count(items)
    check_at_most(items, MOST_COMPARED)
    # The border of a single item is 1 by every rule, but there is none (0 / 0) if the first mark is 0.
    if items < 2:
        return 0
    # The other rule's lead is as great: whatever a rule gives claimant 0 less, it gives claimant 1 more,
    # and the claimants may change places.
    return _greatest_lead(_borders(rule, items), _borders(other_rule, items))
