"""When items are due.

A claimant's item with the number k is due at the time m(k) / claim. The items
that are given by a fair division are those that are due first. Times are
integers here: a mark times the unit of its rule, times the delay of a claimant.
"""

from wholeshares.numeric import as_inverse, in_integers, is_less


def delays_of(claims):
    """Return integers in inverse proportion to the claims."""
    return in_integers([as_inverse(claim) for claim in claims])


def next_dues(rule, delays, counts):
    """Return when each claimant's next item is due."""
    return [rule.whole_mark(count) * delay for delay, count in zip(delays, counts)]


def last_dues(rule, delays, counts):
    """Return when the last items were due of those claimants who have any."""
    return [rule.whole_mark(count - 1) * delay for delay, count in zip(delays, counts) if count > 0]


def items_at_0(rule):
    """Return how many items of each claimant are due at the time 0, whatever the claims are: 1 or 0."""
    return 1 if rule.whole_mark(0) == 0 else 0


def who_is_due(dues):
    """Return the claimants whose next items are due first, in ascending order."""
    first = min(dues)
    return [claimant for claimant, due in enumerate(dues) if due == first]


def _marks_below(rule, top, bottom):
    """Return how many marks of the rule are less than top / bottom."""
    offset_top, offset_bottom = rule.offset
    # Rounded up: marks that are equal do not count.
    plain = -((offset_top * bottom - top * offset_bottom) // (bottom * offset_bottom))
    if plain > len(rule.head):
        return plain
    return len([mark for mark in rule.head if is_less(mark, (top, bottom))])


def _sure_counts(rule, claims, items):
    """Return how many items are due before some time at which not all of these items are due.

    They are nearly as many as the items, unless heads of the rule are far from
    the other marks.
    """
    shares = in_integers(claims)
    total = sum(shares)
    # Behind the heads fewer than time * share / total + 1 items are due before the time.
    time = items - len(shares)
    counts = [_marks_below(rule, time * share, total) for share in shares]
    step = 1
    while sum(counts) > items:
        time -= max(step, sum(counts) - items)
        step *= 2
        counts = [_marks_below(rule, time * share, total) for share in shares]
    return counts


def last_in_line(rule, claims, items):
    """Return the counts of items that are due before the last of these items, and who is due with it.

    The claimants who are due with it, in ascending order, are at least as many
    as the items that remain: any of them may get these.
    """
    delays = delays_of(claims)
    counts = _sure_counts(rule, claims, items)
    dues = next_dues(rule, delays, counts)
    remaining = items - sum(counts)
    tied = who_is_due(dues)
    while len(tied) < remaining:
        remaining -= len(tied)
        for claimant in tied:
            counts[claimant] += 1
            dues[claimant] = rule.whole_mark(counts[claimant]) * delays[claimant]
        tied = who_is_due(dues)
    return counts, tied
