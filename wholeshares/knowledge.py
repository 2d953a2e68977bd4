"""What statements tell of the ratios of claims: the best bounds, or a ring that contradicts the statements."""

from wholeshares.numeric import is_less, lowest, quotient
from wholeshares.statements import contradicts, steps_in


class Bound:
    """An upper bound of c[j] / c[i]: the product of the factors of a path of steps from i to j.

    The path consists of pairs of a statement's place and a step. The ratio is
    less than the bound if the bound is strict.
    """

    def __init__(self, value, strict, path):
        self.value = value
        self.strict = strict
        self.path = path


def _joined(first, second):
    """Return the bound of the path that consists of two paths."""
    value = (first.value[0] * second.value[0], first.value[1] * second.value[1])
    return Bound(value, first.strict or second.strict, first.path + second.path)


def _is_tighter(bound, other):
    """Return True if a bound tells more than another one, which may be None."""
    if other is None or is_less(bound.value, other.value):
        return True
    return bound.strict and not other.strict and not is_less(other.value, bound.value)


class Knowledge:
    """The tightest bounds of all ratios of claims, or `ring`, a ring that contradicts the statements, else None."""

    def __init__(self, claimants, steps_by_place):
        self.claimants = claimants
        self.ring = None
        self._bounds = [[None] * claimants for _ in range(claimants)]
        for place, steps in enumerate(steps_by_place):
            for step in steps:
                self._add(place, step)
        # After each of these turns the bounds are the best ones by paths through the claimants so far.
        for middle in range(claimants):
            if self.ring is None:
                self._join_through(middle)

    def _add(self, place, step):
        i, j, factor, strict = step
        bound = Bound(factor, strict, ((place, step),))
        if factor[0] == 0:
            self.ring = bound.path
        if _is_tighter(bound, self._bounds[i][j]):
            self._bounds[i][j] = bound

    def _join_through(self, middle):
        for i in range(self.claimants):
            first = self._bounds[i][middle]
            for j in range(self.claimants):
                second = self._bounds[middle][j]
                if first is None or second is None:
                    continue
                joined = _joined(first, second)
                if i != j:
                    if _is_tighter(joined, self._bounds[i][j]):
                        self._bounds[i][j] = joined
                elif contradicts(joined.value, joined.strict):
                    # It comes to no claimant twice: else it would consist of rings that were looked at before.
                    self.ring = joined.path
                    return

    def bound(self, i, j):
        """Return the best upper bound of c[j] / c[i], or None; the statements are consistent."""
        return self._bounds[i][j]


def knowledge_of(claimants, statements):
    """Return what these statements tell."""
    return Knowledge(claimants, [steps_in(statement) for statement in statements])


def _number_between(low, high):
    """Return a number between two pairs, or above the first one if the second one is None; or both if equal."""
    if high is None:
        return (low[0] // low[1] + 1, 1)
    gap, whole = high[0] * low[1] - low[0] * high[1], high[1] * low[1]
    if gap == 0:
        return lowest(low)
    # The least bottom for which the gap is surely wider than 1 / bottom keeps the number short.
    bottom = whole // gap + 1
    return lowest((low[0] * bottom // low[1] + 1, bottom))


def claims_by(knowledge):
    """Return claims that satisfy the statements, which are consistent.

    Best bounds leave room for each further claim, however the earlier claims
    were chosen within their bounds.
    """
    claims = [(1, 1)]
    for claimant in range(1, knowledge.claimants):
        low, high = (0, 1), None
        for other, claim in enumerate(claims):
            below, above = knowledge.bound(claimant, other), knowledge.bound(other, claimant)
            if below is not None:
                least = quotient(claim, below.value)
                low = least if is_less(low, least) else low
            if above is not None:
                most = (claim[0] * above.value[0], claim[1] * above.value[1])
                high = most if high is None or is_less(most, high) else high
        claims.append(_number_between(low, high))
    return tuple(claims)
