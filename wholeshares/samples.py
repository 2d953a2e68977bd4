"""A rule and statements to try the package with."""

from wholeshares.rules import Rule


def sample_rule():
    """Return the rule with the text `7/10 | 1/2`."""
    return Rule((1, 2), (7, 10))


def sample_statements():
    """Return two statements about the claims of at least three claimants."""
    return (("fair", sample_rule(), (4, 2, 1), None), ("ratio", 0, 2, None, 4))
