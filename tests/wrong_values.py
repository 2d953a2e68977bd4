"""Values that are refused where rules, claimants and statements are expected."""

from tests.samples import LONG, NO_COUNTS, NO_NUMBERS, EqualToAll, Plain, Unequal
from wholeshares.rules import Rule

HALF = Rule((1, 2))
NO_RULES = NO_COUNTS + (0, 1, "| 1", "| 1/2", (HALF,), [HALF], Rule, LONG)


def no_claimants(most):
    """Return values that are no numbers of claimants from 2 to the most."""
    return NO_COUNTS + (0, 1, most + 1, most + 2, 100, LONG, "2", (2, 1), [2])


def no_claimant(claimants):
    """Return values that are none of so many claimants."""
    return NO_COUNTS + (claimants, claimants + 1, LONG, "0", (0, 1), [0])


def _no_words():
    return ("", "fai", "Fair", "FAIR", "fair ", " fair", "Unique", "uniqu", "ratios", "Ratio", "different", b"fair",
            None, True, 0, 1, ("fair",), ["fair"], "fair\n", "satisfied", EqualToAll(), Unequal(), Plain(), HALF)


NO_POSITIVE = NO_NUMBERS + (0, -1, (0, 1), (0, 7), (-1, 2), -LONG)


def no_statements(n):
    """Return values that are no statements about n claimants; few of them are wrong at more than one place."""
    zeros, ones = (0,) * n, (1,) * n
    found = list(NO_COUNTS) + [0, 1, HALF, "fair", "ratio 0 1 1 2", ("fair",), ("ratio", 0, 1)]
    found += [
        ["fair", HALF, ones, None], {"fair": HALF}, ("fair", HALF, ones), ("fair", HALF, ones, None, None),
        ("unique", HALF), ("ratio", 0, 1, None), ("ratio", 0, 1, 1, 2, 3), ["ratio", 0, 1, 1, 2],
        ("ratio", HALF, ones, None), ("fair", 0, 1, None, None), ("fair", 0, 1, None), ("ratio", HALF, ones, None, None),
        (("fair", HALF, ones, None),), "fair", ("fair", str(HALF), ones, None),
    ]
    found += [(word, HALF, ones, None) for word in _no_words()]
    found += [(word, 0, 1, None, None) for word in _no_words() + ("fair", "unique")]
    for word in ("fair", "unique"):
        found += [(word, rule, ones, None) for rule in NO_RULES]
        found += [(word, HALF, division, None) for division in NO_COUNTS + (0, 1, "1" * n, [1] * n, {}, HALF)
                  if not isinstance(division, tuple) or len(division) != n]
        found += [(word, HALF, division, None) for division in (ones + (1,), ones[1:], (1,), (None,) * n, (HALF,) * n)]
        found += [(word, HALF, (*ones[1:], count), None) for count in NO_COUNTS]
        found += [(word, HALF, (count, *zeros[1:]), None) for count in NO_COUNTS]
        found += [(word, HALF, ones, factors) for factors in NO_NUMBERS + (0, 1, [1] * n, "1" * n, HALF)
                  if factors is not None and (not isinstance(factors, tuple) or len(factors) != n)]
        found += [(word, HALF, ones, ones + (1,)), (word, HALF, ones, ones[1:]), (word, HALF, ones, (None,) * n)]
        found += [(word, HALF, ones, (*ones[1:], factor)) for factor in NO_POSITIVE]
        found += [(word, HALF, ones, (factor, *ones[1:])) for factor in NO_POSITIVE]
    found += [("ratio", i, 1, None, None) for i in no_claimant(n) + (1,)]
    found += [("ratio", 1, j, 1, 2) for j in no_claimant(n) + (1,)]
    found += [("ratio", k, k, None, None) for k in range(n)]
    found += [("ratio", 0, 1, low, None) for low in NO_POSITIVE if low is not None]
    found += [("ratio", 0, 1, 1, high) for high in NO_POSITIVE if high is not None]
    return found
