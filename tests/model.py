"""What the document says of divisions, word for word and slowly, with fractions; and rules and claims to try.

Nothing here calls the program, except to create rules and to read their heads and offsets.
"""

import itertools
from fractions import Fraction

from tests.samples import LONG, RULES
from wholeshares.rules import Rule


def number(value):
    """Return a number of the document as a fraction."""
    return Fraction(*value) if isinstance(value, tuple) else Fraction(value)


def mark(rule, k):
    return number(rule.head[k]) if k < len(rule.head) else k + number(rule.offset)


def marks_of(rule, many):
    return [mark(rule, k) for k in range(many)]


def fair(rule, claims, division):
    """Return True if the condition of point 8 holds."""
    c = [number(claim) for claim in claims]
    return all(
        mark(rule, division[i] - 1) * c[j] <= mark(rule, division[j]) * c[i]
        for i, j in itertools.permutations(range(len(c)), 2)
        if division[i] > 0
    )


def divisions(claimants, items):
    """Return all divisions of the items, in descending order."""
    if claimants == 1:
        return [(items,)]
    return [(first,) + rest for first in range(items, -1, -1) for rest in divisions(claimants - 1, items - first)]


def all_fair(rule, claims, items):
    return tuple(division for division in divisions(len(claims), items) if fair(rule, claims, division))


def neighbours(division):
    """Return the divisions of the same items in which each count differs by at most 1, in descending order.

    No count of two fair divisions of the same items differs by more, as the marks ascend.
    """
    steps = [step for step in itertools.product((1, 0, -1), repeat=len(division)) if sum(step) == 0]
    near = [tuple(count + more for count, more in zip(division, step)) for step in steps]
    return [other for other in near if min(other) >= 0]


def borders(rule, items):
    """Return the quotients of marks, not more than any number, that limit c[0] / c[1] in point 8."""
    marks = marks_of(rule, items)
    return [marks[k] / marks[items - 1 - k] for k in range(items) if marks[items - 1 - k]]


def telling_ratios(rules, items):
    """Return ratios c[0] / c[1]: all at which fair divisions for two claimants may change, and some between them."""
    limits = sorted({Fraction(0)}.union(*[borders(rule, items) for rule in rules]))
    between = [(low + high) / 2 for low, high in zip(limits, limits[1:])]
    return limits[1:] + between + [limits[-1] + 1]


def claims_with(ratio):
    """Return claims of two claimants with this ratio."""
    return ((ratio.numerator, 1), ratio.denominator)


# Rules of every kind: heads of all lengths, first marks of 0, marks behind the others and ahead of them.
MANY_RULES = tuple(Rule(*arguments) for arguments, _, _, _ in RULES) + (
    Rule((1, 3)), Rule((2, 3), (1, 2), 1), Rule(1, (1, 2)), Rule(0, (1, 2)), Rule((1, 2), 0, (3, 2), (7, 3)),
    Rule(0, (3, 2), (7, 4)), Rule(1, 2, (5, 2)), Rule((1, 2), (3, 2), (5, 2), (7, 2), 4),
    Rule((LONG, 2 * LONG + 1), (1, LONG), (LONG, LONG + 1)), Rule(1, *[(k, 10 ** 59) for k in range(8)]),
)
FEW_RULES = (
    Rule(0), Rule(1), Rule((1, 2)), Rule((1, 2), (7, 10)), Rule((1, 2), 0), Rule(1, 0, (1, 3)), Rule(0, (1, 2)),
    Rule(0, 0, 1, 2), Rule(1, 0, 1, 2, 3, 4, 5, 6, 7), Rule((1, 2), 0, (3, 2), (7, 3)),
)
MANY_CLAIMS = (
    (1,), ((7, 3),), (1, 1), (2, 1), (1, 2), (3, 2), ((1, 2), (1, 3)), (100, 1), (1, 10 ** 59), (1, 1, 1), (2, 1, 1),
    (53, 24, 23), ((1, 2), 1, (3, 2)), (1, 10, 100), (LONG, LONG + 1, LONG - 1), (1, 1, 1, 1), (4, 3, 2, 1),
    ((5, 7), (5, 7), 1, 1), (1, 1, 1, 1, 1), (5, 4, 3, 2, 1), (1, 1, 1, 1, 1, 1), (6, 5, 4, 3, 2, 1),
    ((1, 2), (1, 3), (1, 4), (1, 5), (1, 6), (1, 7)), (10 ** 59, 1, 1, 1, 1, (1, 10 ** 59)),
)

# A rule and claims with numbers as long as a caller may pass them.
LONG_RULE = Rule((LONG // 3, LONG), *[(k * LONG + 2 * k + 1, LONG + 10 * k + 3) for k in range(8)])
LONG_CLAIMS = tuple((10 ** 60 - 1 - k ** 5, 10 ** 60 - 1 - 7 ** (k + 3)) for k in range(6))
