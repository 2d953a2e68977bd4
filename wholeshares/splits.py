"""The greatest and the least sums of marks over all splits of items among claimants.

All sums are multiplied by the unit of the rule. Where a count stands behind
the head of a rule, its mark is a plain one: it grows by 1 with each item. So
only the counts in the head make a split better than another one.
"""


def _moved(sums, count, gain, filler):
    """Return the sums of gains with one count and its gain more; those of totals below the count are the filler."""
    return ([filler] * count + [one + gain for one in sums])[:len(sums)]


def _with_another_count(gains, sums):
    """Return the greatest sums of gains for one count more, by the total of the counts."""
    # If some count is in the list, let it be the new one. If none is, the new one may be the first behind the list.
    choices = [*gains, 0]
    filler = min(sums) + min(choices)
    rows = [_moved(sums, count, gain, filler) for count, gain in enumerate(choices)]
    return [max(column) for column in zip(*rows)]


class Splits:
    """All splits of items, up to a number of them, into the counts of some claimants.

    Each count k has a value: values[k], and behind this list start + k * step.
    What it has more than that is its gain, so a count behind the list has none.
    """

    def __init__(self, values, start, step, many, most):
        self._gains = [value - start - count * step for count, value in enumerate(values)]
        self._start = start * many
        self._step = step
        self._many = many
        self._most = most
        self._sums = []

    def _greatest_gain(self, items):
        """Return the greatest sum of gains in a split of these items."""
        limit = len(self._gains) * self._many
        if items >= limit:
            # One count at least stands behind the list, and may be so far behind it that the others are free.
            return (self._many - 1) * max([0, *self._gains])
        if not self._sums:
            length = min(self._most, limit - 1) + 1
            self._sums = (self._gains + [0] * length)[:length]
            for _ in range(self._many - 1):
                self._sums = _with_another_count(self._gains, self._sums)
        return self._sums[items]

    def greatest(self, items):
        """Return the greatest sum of values in a split of these items."""
        return self._start + items * self._step + self._greatest_gain(items)


def next_mark_splits(rule, least, many, most):
    """Return the splits in which a count k has the value m(least + k): each claimant has the least count besides."""
    values = [rule.whole_mark(count) for count in range(least, len(rule.head))]
    return Splits(values, rule.whole_offset + least * rule.unit, rule.unit, many, most)


def last_mark_splits(rule, least, many, most):
    """Return the splits in which a count k has the value -m(least + k - 1), or 0 if least + k is 0."""
    values = [-rule.whole_mark(count - 1) if count > 0 else 0 for count in range(least, len(rule.head) + 1)]
    return Splits(values, -rule.whole_offset - (least - 1) * rule.unit, -rule.unit, many, most)
