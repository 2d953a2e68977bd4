"""Which part of all claims is needed for a number of items, and which part is sure to get it.

By point 8 a division that gives claimant 0 k items and another claimant a
items limits the other claim, divided by that of claimant 0: it is at most
m(a) / m(k - 1), and at least m(a - 1) / m(k) if a > 0. All other claimants can
be at these upper limits at once, and at these lower limits, too, or as near to
0 as one likes where the lower limit is 0. So with k items the least part is
m(k - 1) / (m(k - 1) + S), where S is the greatest sum of marks m(a) for the
other claimants; and the greatest part is m(k) / (m(k) + s), where s is the
least sum of marks m(a - 1) for those who have items.
"""

from wholeshares.checks import check_at_most, check_claimants, check_count, check_rule
from wholeshares.dues import items_at_0
from wholeshares.limits import MOST_ITEMS, MOST_SHARERS
from wholeshares.numeric import is_less, lowest
from wholeshares.splits import last_mark_splits, next_mark_splits

NOTHING = (0, 1)


def _check(rule, claimants, items):
    check_rule(rule)
    check_claimants(claimants, MOST_SHARERS)
    check_count(items)


def _can_all_lack(rule, claimants, items):
    """Return True if any claimant may be left without an item, whatever the claims are."""
    return items < claimants * items_at_0(rule)


def least_possible(rule, claimants, items, count):
    """Return the least part with which claimant 0 can get the count, and whether it can with this part."""
    _check(rule, claimants, items)
    check_count(count)
    check_at_most(items, MOST_ITEMS)
    if count > items:
        return None
    if count == 0 or rule.whole_mark(count - 1) == 0:
        return (NOTHING, False)
    least, others = items_at_0(rule), claimants - 1
    spare = items - count - least * others
    if spare < 0:
        return None
    # With more items than the count, claimant 0 would need a larger part.
    mark = rule.whole_mark(count - 1)
    marks = next_mark_splits(rule, least, others, spare).greatest(spare)
    return (lowest((mark, mark + marks)), True)


class LastMarks:
    """The least sums of the last marks of the other claimants, by the items that they have besides the least count."""

    def __init__(self, rule, others, most):
        least = items_at_0(rule)
        self._others = others
        self._splits = last_mark_splits(rule, least, others, most)
        self._splits_without_0 = last_mark_splits(rule, least + 1, others, max(0, most - others))

    def least(self, spare):
        """Return the least sum."""
        return -self._splits.greatest(spare)

    def is_reached(self, spare):
        """Return True if claims with this sum exist: a last mark of 0, or none, would ask for a claim of 0."""
        further = spare - self._others
        return further >= 0 and self._splits_without_0.greatest(further) == self._splits.greatest(spare)


def least_sure(rule, claimants, items, count):
    """Return the least part above which claimant 0 is sure to get the count, and whether it is with this part."""
    _check(rule, claimants, items)
    check_count(count)
    check_at_most(items, MOST_ITEMS)
    if count > 0 and _can_all_lack(rule, claimants, items):
        return None
    # Claimant 0 has less than the count with the largest part if it lacks one item only.
    fewer, least, others = count - 1, items_at_0(rule), claimants - 1
    if fewer < least:
        return (NOTHING, False)
    spare = items - fewer - least * others
    if spare <= 0:
        return None
    mark, marks = rule.whole_mark(fewer), LastMarks(rule, others, spare)
    return (lowest((mark, mark + marks.least(spare))), not marks.is_reached(spare))


def _excess(rule, items, count, marks):
    """Return how much the count exceeds the least part times the items, and whether it does."""
    mark = rule.whole_mark(count - 1) if count > 0 else 0
    if mark == 0:
        return ((count, 1), False)
    total = mark + marks
    return ((count * total - items * mark, total), True)


def _lack(rule, items, count, marks, is_reached):
    """Return how much the greatest part times the items exceeds the count, and whether it does."""
    mark = rule.whole_mark(count)
    total = mark + marks
    return ((items * mark - count * total, total), is_reached)


def _greatest(found):
    """Return the greatest number of these pairs, and whether it occurs in one of them."""
    best = found[0]
    for one in found:
        if is_less(best[0], one[0]) or (one[1] and not is_less(one[0], best[0])):
            best = one
    return (lowest(best[0]), best[1])


def _telling_counts(rule, items, least, others):
    """Return counts of claimant 0 among which are those with the widest differences.

    Between them, claimant 0 has plain marks, and so has another claimant who
    takes what the others leave: both differences grow or fall evenly there.
    """
    most = items - least * others
    length = len(rule.head) + 1
    small = list(range(least, min(most, length) + 1))
    large = list(range(max(least, length + 1, most - length * others), most + 1))
    return small + large


def widest(rule, claimants, items):
    """Return how much the count of claimant 0 can exceed its part of the items, and how much it can lack."""
    _check(rule, claimants, items)
    check_at_most(items, MOST_ITEMS)
    if items == 0:
        return ((NOTHING, True), (NOTHING, True))
    if _can_all_lack(rule, claimants, items):
        return (((1, 1), False), ((items, 1), False))
    least, others = items_at_0(rule), claimants - 1
    most = items - least * others
    next_marks = next_mark_splits(rule, least, others, most - least)
    last_marks = LastMarks(rule, others, most - least)
    excesses, lacks = [], []
    for count in _telling_counts(rule, items, least, others):
        spare = most - count
        excesses.append(_excess(rule, items, count, next_marks.greatest(spare)))
        lacks.append(_lack(rule, items, count, last_marks.least(spare), last_marks.is_reached(spare)))
    return (_greatest(excesses), _greatest(lacks))
