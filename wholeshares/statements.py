"""Statements about unknown claims: their forms, and the steps of which they consist.

A step (i, j, factor, strict) says that c[j] is at most factor * c[i], or less
than that if it is strict.
"""

from wholeshares.checks import check_claimants
from wholeshares.errors import InvalidStatements
from wholeshares.forms import are_positive, is_claimant, is_division, is_tuple_of, is_word
from wholeshares.limits import MOST_STATEMENTS
from wholeshares.numeric import as_inverse, as_pair, is_less, is_positive, lowest, quotient
from wholeshares.rules import Rule


def _is_bound(value):
    return value is None or is_positive(value)


def _is_about_division(value, claimants):
    """Return True if a tuple of length 4 is a statement."""
    word, rule, division, factors = value
    if not is_word(word, ("fair", "unique")) or not isinstance(rule, Rule):
        return False
    return is_division(division, claimants) and (factors is None or are_positive(factors, claimants))


def _is_about_ratio(value, claimants):
    """Return True if a tuple of length 5 is a statement."""
    word, i, j, low, high = value
    if not is_word(word, ("ratio",)) or not is_claimant(i, claimants) or not is_claimant(j, claimants):
        return False
    return i != j and _is_bound(low) and _is_bound(high)


def is_statement(value, claimants):
    """Return True if the value is a statement about the claims of so many claimants."""
    if is_tuple_of(value, 4):
        return _is_about_division(value, claimants)
    return is_tuple_of(value, 5) and _is_about_ratio(value, claimants)


def check_statement(value, claimants):
    """Raise InvalidStatements(0) unless the value is a statement."""
    if not is_statement(value, claimants):
        raise InvalidStatements(0)


def check_statements(value, claimants):
    """Raise InvalidStatements unless the value is a tuple of at most 12 statements."""
    if not isinstance(value, tuple) or len(value) > MOST_STATEMENTS:
        raise InvalidStatements(None)
    for index, statement in enumerate(value):
        if not is_statement(statement, claimants):
            raise InvalidStatements(index)


def check_known(claimants, statements):
    """Raise InvalidClaimants or InvalidStatements unless there may be such statements."""
    check_claimants(claimants)
    check_statements(statements, claimants)


def _ratio_steps(statement):
    _, i, j, low, high = statement
    steps = []
    if high is not None:
        steps.append((j, i, lowest(high), False))
    if low is not None:
        steps.append((i, j, lowest(as_inverse(low)), False))
    return steps


def _mark_by_factor(rule, number, factor):
    """Return a mark divided by the factor of its claimant."""
    return quotient(rule.mark(number), as_pair(factor))


def _division_steps(statement):
    word, rule, division, factors = statement
    strict = word == "unique"
    if factors is None:
        factors = (1,) * len(division)
    claimants = range(len(division))
    next_marks = [_mark_by_factor(rule, division[j], factors[j]) for j in claimants]
    steps = []
    for i in claimants:
        if division[i] == 0:
            continue
        last_mark = _mark_by_factor(rule, division[i] - 1, factors[i])
        for j in claimants:
            if i != j and last_mark[0] > 0:
                steps.append((i, j, lowest(quotient(next_marks[j], last_mark)), strict))
            elif i != j and strict and next_marks[j][0] == 0:
                steps.append((i, j, (0, 1), True))
    return steps


def steps_in(statement):
    """Return the steps of a statement in their order."""
    if is_tuple_of(statement, 4):
        return _division_steps(statement)
    return _ratio_steps(statement)


def product_of(steps):
    """Return the product of the factors of steps, and whether one of the steps is strict."""
    top = bottom = 1
    strict = False
    for _, _, factor, is_strict in steps:
        top *= factor[0]
        bottom *= factor[1]
        strict = strict or is_strict
    return ((top, bottom), strict)


def contradicts(product, strict):
    """Return True if steps with this product, which end where they begin, contradict their statements."""
    top, bottom = product
    return top < bottom or (top == bottom and strict)


def satisfies(claims, step):
    """Return True if claims, which are pairs, satisfy a step."""
    i, j, factor, strict = step
    limit = (factor[0] * claims[i][0], factor[1] * claims[i][1])
    if strict:
        return is_less(claims[j], limit)
    return not is_less(limit, claims[j])
