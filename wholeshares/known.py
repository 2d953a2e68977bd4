"""Conclusions from statements about unknown claims."""

from wholeshares.checks import check_at_most, check_claimants, check_count, check_rule
from wholeshares.dues import items_at_0
from wholeshares.errors import Inconsistent, InvalidClaimant
from wholeshares.forms import is_claimant
from wholeshares.knowledge import claims_by, knowledge_of
from wholeshares.limits import MOST_ITEMS, MOST_LISTED
from wholeshares.numeric import as_inverse, lowest
from wholeshares.outcomes import Outcomes, greatest_count, least_count
from wholeshares.statements import check_known, check_statement, steps_in


def _check_claimant(value, claimants):
    if not is_claimant(value, claimants):
        raise InvalidClaimant(value)


def _consistent_knowledge(claimants, statements):
    """Return what the statements tell; raise Inconsistent."""
    knowledge = knowledge_of(claimants, statements)
    if knowledge.ring is not None:
        raise Inconsistent()
    return knowledge


def steps_of(claimants, statement):
    """Return the steps of one statement."""
    check_claimants(claimants)
    check_statement(statement, claimants)
    return tuple(steps_in(statement))


def contradiction(claimants, statements):
    """Return a ring that contradicts the statements, or None if they are consistent."""
    check_known(claimants, statements)
    return knowledge_of(claimants, statements).ring


def consistent(claimants, statements):
    """Return True if some claims satisfy the statements."""
    return contradiction(claimants, statements) is None


def some_claims(claimants, statements):
    """Return claims that satisfy the statements."""
    check_known(claimants, statements)
    return claims_by(_consistent_knowledge(claimants, statements))


def ratio_bounds(claimants, statements, i, j):
    """Return the bounds of c[i] / c[j], each with whether it is reached."""
    check_known(claimants, statements)
    _check_claimant(i, claimants)
    _check_claimant(j, claimants)
    if i == j:
        raise InvalidClaimant(j)
    knowledge = _consistent_knowledge(claimants, statements)
    low, high = ((0, 1), False), (None, False)
    below, above = knowledge.bound(i, j), knowledge.bound(j, i)
    if below is not None:
        low = (lowest(as_inverse(below.value)), not below.strict)
    if above is not None:
        high = (lowest(above.value), not above.strict)
    return low + high


def _part_beside(claims):
    """Return the part of a claim of 1 beside other claims, which are pairs."""
    top, bottom = 1, 1
    for claim_top, claim_bottom in claims:
        top, bottom = top * claim_bottom + claim_top * bottom, bottom * claim_bottom
    return lowest((bottom, top))


def part_bounds(claimants, statements, i):
    """Return the bounds of the part of a claimant, each with whether it is reached."""
    check_known(claimants, statements)
    _check_claimant(i, claimants)
    knowledge = _consistent_knowledge(claimants, statements)
    others = [j for j in range(claimants) if j != i]
    # Divided by c[i], all other claims can be at their upper bounds at once, and at their lower bounds, too.
    below = [knowledge.bound(i, j) for j in others]
    above = [knowledge.bound(j, i) for j in others]
    low = ((0, 1), False)
    if None not in below:
        low = (_part_beside([bound.value for bound in below]), not any([bound.strict for bound in below]))
    high = _part_beside([as_inverse(bound.value) for bound in above if bound is not None])
    return low + (high, None not in above and not any([bound.strict for bound in above]))


def count_bounds(claimants, statements, rule, items, i):
    """Return the least and the greatest count of a claimant in all fair divisions for all such claims."""
    check_known(claimants, statements)
    check_rule(rule)
    check_count(items)
    _check_claimant(i, claimants)
    check_at_most(items, MOST_ITEMS)
    knowledge = _consistent_knowledge(claimants, statements)
    if items < claimants * items_at_0(rule):
        # The first items of all claimants are due at once, so anyone may have one of them or none.
        return (0, min(items, 1))
    return (least_count(knowledge, rule, items, i), greatest_count(knowledge, rule, items, i))


def possible_divisions(claimants, statements, rule, items):
    """Return all divisions that are fair for some such claims, in descending order."""
    check_known(claimants, statements)
    check_rule(rule)
    check_count(items)
    check_at_most(items, MOST_LISTED)
    knowledge = _consistent_knowledge(claimants, statements)
    return tuple(Outcomes(knowledge, rule, items).beginning_with(()))
