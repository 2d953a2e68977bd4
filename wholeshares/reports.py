"""Texts about divisions and rules."""

from wholeshares.checks import check_count, check_rule
from wholeshares.divisions import fair_division
from wholeshares.errors import InvalidCount
from wholeshares.numeric import in_integers
from wholeshares.spelling import number_text

MOST_MARKS = 1000


def _in_hundredths(top, bottom):
    """Return the text of a number, rounded down to hundredths."""
    whole, rest = divmod(100 * top // bottom, 100)
    return f"{whole}.{rest:02d}"


def division_table(rule, claims, items):
    """Return a line for each claimant of the first fair division: the count and the exact share."""
    division = fair_division(rule, claims, items)
    shares = in_integers(claims)
    total = sum(shares)
    return "\n".join([
        f"{count} {_in_hundredths(items * share, total)}" for count, share in zip(division, shares)
    ])


def mark_line(rule, count):
    """Return the first marks of the rule."""
    check_rule(rule)
    check_count(count)
    if count > MOST_MARKS:
        raise InvalidCount(count)
    return " ".join([number_text(rule.mark(number)) for number in range(count)])
