"""Which fair divisions are possible for claims of which only bounds are known."""

from wholeshares.dues import items_at_0, last_in_line
from wholeshares.numeric import as_inverse, is_less


def _count_of_first(rule, others, items):
    """Return the count of a claimant with the claim 1 beside others, in the fair division that they decide.

    The others are pairs of a claim and True if it comes first where items are due
    at the same time, False if the claimant does.
    """
    counts, tied = last_in_line(rule, [(1, 1), *[claim for claim, _ in others]], items)
    ahead = [k for k in tied if k > 0 and others[k - 1][1]]
    gets_one = 0 in tied and len(ahead) < items - sum(counts)
    return counts[0] + 1 if gets_one else counts[0]


def _other_claimants(knowledge, i):
    return [j for j in range(knowledge.claimants) if j != i]


def least_count(knowledge, rule, items, i):
    """Return the least count of a claimant; there are as many items as claimants, or the first mark is not 0.

    All other claims are as large as possible, or nearly so if the bound is
    strict: then their items are due a little later.
    """
    bounds = [knowledge.bound(i, j) for j in _other_claimants(knowledge, i)]
    if None in bounds:
        return items_at_0(rule)
    return _count_of_first(rule, [(bound.value, not bound.strict) for bound in bounds], items)


def greatest_count(knowledge, rule, items, i):
    """Return the greatest count of a claimant; there are as many items as claimants, or the first mark is not 0.

    All other claims are as small as possible, or nearly so if the bound is
    strict: then their items are due a little earlier. Those whose claims can be
    as small as one likes get only the items that they get in any case.
    """
    bounds = [knowledge.bound(j, i) for j in _other_claimants(knowledge, i)]
    others = [(as_inverse(bound.value), bound.strict) for bound in bounds if bound is not None]
    return _count_of_first(rule, others, items - items_at_0(rule) * (len(bounds) - len(others)))


def _is_possible(knowledge, rule, pair, counts):
    """Return True if the first one of a pair of claimants may have its count beside that of the other one."""
    last = rule.whole_mark(counts[0] - 1) if counts[0] > 0 else 0
    if last == 0:
        return True
    following = rule.whole_mark(counts[1])
    bound = knowledge.bound(pair[1], pair[0])
    if bound is None:
        return following > 0
    limit = (following * bound.value[0], bound.value[1])
    return is_less((last, 1), limit) or (not bound.strict and not is_less(limit, (last, 1)))


def _least_partners(knowledge, rule, pair, items):
    """Return, for each count of one claimant, the least possible count of the other one, or more than the items."""
    partners = []
    partner = 0
    for count in range(items + 1):
        while partner <= items and not _is_possible(knowledge, rule, pair, (count, partner)):
            partner += 1
        partners.append(partner)
    return partners


class Outcomes:
    """The divisions of items that are fair for some claims within the bounds.

    Such a division needs to be possible for each two claimants only: if steps
    of a fair division and bounds form a contradicting ring with several such
    steps, then one of them and one bound form such a ring, too.
    """

    def __init__(self, knowledge, rule, items):
        self.claimants = knowledge.claimants
        self._total = items
        self._least = [
            [_least_partners(knowledge, rule, (i, j), items) if i != j else [] for j in range(self.claimants)]
            for i in range(self.claimants)
        ]

    def _may_follow(self, counts, count):
        """Return True if the next claimant may have a count beside these counts."""
        j = len(counts)
        return all([
            self._least[i][j][other] <= count and self._least[j][i][count] <= other
            for i, other in enumerate(counts)
        ])

    def beginning_with(self, counts):
        """Return all possible divisions that begin with these counts, in descending order."""
        rest = self._total - sum(counts)
        if len(counts) == self.claimants - 1:
            return [(*counts, rest)] if self._may_follow(counts, rest) else []
        found = []
        for count in range(rest, -1, -1):
            if self._may_follow(counts, count):
                found.extend(self.beginning_with((*counts, count)))
        return found
