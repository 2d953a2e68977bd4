"""What the document says of statements, steps and rings, word for word and slowly, with fractions.

Paths and rings are listed one by one. Nothing here calls the program, except to create rules.
"""

import itertools
from fractions import Fraction

from tests import drawn
from tests.model import fair, mark, neighbours, number


def steps(statement):
    """Return the steps of point 10, their factors as fractions, in the order of `steps_of`."""
    if statement[0] == "ratio":
        _, i, j, low, high = statement
        found = [(j, i, number(high), False)] if high is not None else []
        return found + ([(i, j, 1 / number(low), False)] if low is not None else [])
    word, rule, division, factors = statement
    f = [number(factor) for factor in factors or (1,) * len(division)]
    found = []
    for i, j in itertools.permutations(range(len(division)), 2):
        if division[i] == 0:
            continue
        last, following = mark(rule, division[i] - 1), mark(rule, division[j])
        if last > 0:
            found.append((i, j, following / last * f[i] / f[j], word == "unique"))
        elif word == "unique" and following == 0:
            found.append((i, j, Fraction(0), True))
    return found


def all_steps(statements):
    return [step for statement in statements for step in steps(statement)]


def satisfies_step(claims, step):
    i, j, factor, strict = step
    c = [number(claim) for claim in claims]
    return c[j] < factor * c[i] if strict else c[j] <= factor * c[i]


def satisfies(claims, statement):
    """Return True if claims satisfy a statement by point 9, without its steps."""
    c = [number(claim) for claim in claims]
    if statement[0] == "ratio":
        _, i, j, low, high = statement
        ratio = c[i] / c[j]
        return (low is None or number(low) <= ratio) and (high is None or ratio <= number(high))
    word, rule, division, factors = statement
    weighed = [drawn.pair(one * number(factor)) for one, factor in zip(c, factors or (1,) * len(c))]
    if not fair(rule, weighed, division):
        return False
    return word == "fair" or [near for near in neighbours(division) if fair(rule, weighed, near)] == [division]


def _best(some_steps):
    """Return the tightest factor for each two claimants, with whether it is strict."""
    best = {}
    for i, j, factor, strict in some_steps:
        key = (factor, not strict)
        best[i, j] = min(best.get((i, j), key), key)
    return best


def _product(best, walk):
    """Return the product of the tightest factors along a walk, with whether none of them is strict, or None."""
    product, plain = Fraction(1), True
    for pair in zip(walk, walk[1:]):
        if pair not in best:
            return None
        product, plain = product * best[pair][0], plain and best[pair][1]
    return (product, plain)


def consistent(claimants, some_steps):
    """Return True if no ring without a claimant twice contradicts the steps, and no factor is 0."""
    best = _best(some_steps)
    if any(factor == 0 for factor, _ in best.values()):
        return False
    for length in range(2, claimants + 1):
        for walk in itertools.permutations(range(claimants), length):
            if walk[0] == min(walk):
                product = _product(best, (*walk, walk[0]))
                if product is not None and product < (1, True):
                    return False
    return True


def bound(claimants, some_steps, i, j):
    """Return the least product of all paths from i to j, with whether it can be reached; or None."""
    best = _best(some_steps)
    others = [k for k in range(claimants) if k not in (i, j)]
    walks = [
        (i, *middle, j) for length in range(claimants - 1) for middle in itertools.permutations(others, length)
    ]
    products = [product for product in (_product(best, walk) for walk in walks) if product is not None]
    return min(products, default=None)


def ratio_bounds(claimants, some_steps, i, j):
    """Return the bounds of c[i] / c[j] in the form of `ratio_bounds`, with fractions."""
    above, below = bound(claimants, some_steps, j, i), bound(claimants, some_steps, i, j)
    low = (Fraction(0), False) if below is None else (1 / below[0], below[1])
    return low + ((None, False) if above is None else above)


def part_bounds(claimants, some_steps, i):
    """Return the bounds of the part of claimant i in the form of `part_bounds`, with fractions."""
    others = [j for j in range(claimants) if j != i]
    ratios = [ratio_bounds(claimants, some_steps, j, i) for j in others]
    high = (1 / (1 + sum(low for low, _, _, _ in ratios)), all(reached for _, reached, _, _ in ratios))
    if any(most is None for _, _, most, _ in ratios):
        return (Fraction(0), False) + high
    return (1 / (1 + sum(most for _, _, most, _ in ratios)), all(reached for _, _, _, reached in ratios)) + high


def in_fractions(bounds):
    """Return bounds that the program returned with fractions, for a comparison."""
    low, low_reached, high, high_reached = bounds
    return (number(low), low_reached, None if high is None else number(high), high_reached)
