"""The greatest and the least sums of marks over all splits of items among claimants.

All sums are multiplied by the unit of the rule. Where a count stands behind
the head of a rule, its mark is a plain one: it grows by 1 with each item. So
only the counts in the head make a split better than another one.
"""


def _with_another_count(gains, best):
    """Return the greatest sums of gains for one count more, by the sum of the counts."""
    peaks = []
    for gain in best:
        peaks.append(max(gain, peaks[-1]) if peaks else gain)
    sums = []
    for total in range(len(best)):
        options = [best[total - count] + gain for count, gain in enumerate(gains[:total + 1])]
        # A count behind the list has no gain, and leaves any smaller sum to the others.
        if total >= len(gains):
            options.append(peaks[total - len(gains)])
        sums.append(max(options))
    return sums


def _greatest_gains(gains, many, most):
    """Return the greatest sums of gains that so many counts have, by the sum of the counts.

    A count has the gain at its place in the list, and behind the list it has
    none. The results end with that for `most`, or with the one that holds for
    all greater sums, too: then one count at least stands behind the list.
    """
    length = min(most, len(gains) * many) + 1
    best = (gains + [0] * length)[:length]
    for _ in range(many - 1):
        best = _with_another_count(gains, best)
    return best


class Splits:
    """All splits of items, up to a number of them, into the counts of some claimants.

    Each count k has a value: values[k], and behind this list start + k * step.
    """

    def __init__(self, values, start, step, many, most):
        gains = [value - start - count * step for count, value in enumerate(values)]
        self._gains = _greatest_gains(gains, many, most)
        self._start = start * many
        self._step = step

    def greatest(self, items):
        """Return the greatest sum of values in a split of these items."""
        return self._start + items * self._step + self._gains[min(items, len(self._gains) - 1)]


def next_mark_splits(rule, least, many, most):
    """Return the splits in which a count k has the value m(least + k): each claimant has the least count besides."""
    values = [rule.whole_mark(count) for count in range(least, len(rule.head))]
    return Splits(values, rule.whole_offset + least * rule.unit, rule.unit, many, most)


def last_mark_splits(rule, least, many, most):
    """Return the splits in which a count k has the value -m(least + k - 1), or 0 if least + k is 0."""
    values = [-rule.whole_mark(count - 1) if count > 0 else 0 for count in range(least, len(rule.head) + 1)]
    return Splits(values, -rule.whole_offset - (least - 1) * rule.unit, -rule.unit, many, most)
