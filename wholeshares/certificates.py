"""Certificates: pairs of a true claim and a paper that shows it to the checker."""

from wholeshares.comparing import first_difference, first_unkind
from wholeshares.divisions import fair_division
from wholeshares.forms import is_tuple_of
from wholeshares.knowledge import claims_by, knowledge_of
from wholeshares.known import ratio_bounds
from wholeshares.numeric import lowest
from wholeshares.statements import check_known


def _with_texts(statements):
    """Return the statements with the texts of rules in their places."""
    written = []
    for statement in statements:
        if is_tuple_of(statement, 4):
            word, rule, division, factors = statement
            statement = (word, str(rule), division, factors)
        written.append(statement)
    return tuple(written)


def certify_fair(rule, claims, items):
    """Return a certificate of the first fair division."""
    division = fair_division(rule, claims, items)
    return (("fair", str(rule), tuple([lowest(claim) for claim in claims]), division), ())


def certify_different(rule, other_rule):
    """Return a certificate of the first difference of two rules, or None."""
    found = first_difference(rule, other_rule)
    if found is None:
        return None
    _, claims, division = found
    return (("different", str(rule), str(other_rule), claims, division), ())


def certify_unkind(rule, other_rule):
    """Return a certificate that the rule is not as kind to small claims as the other rule, or None."""
    found = first_unkind(rule, other_rule)
    if found is None:
        return None
    return (("unkind", str(rule), str(other_rule), *found), ())


def certify_statements(claimants, statements):
    """Return a certificate that the statements are consistent, or that they are not."""
    check_known(claimants, statements)
    knowledge = knowledge_of(claimants, statements)
    if knowledge.ring is not None:
        return (("contradicted", claimants, _with_texts(statements)), knowledge.ring)
    return (("satisfied", claimants, _with_texts(statements)), claims_by(knowledge))


def certify_ratio(claimants, statements, i, j):
    """Return a certificate of the upper bound of c[i] / c[j], or None if there is no such bound."""
    _, _, high, _ = ratio_bounds(claimants, statements, i, j)
    if high is None:
        return None
    path = knowledge_of(claimants, statements).bound(j, i).path
    return (("ratio", claimants, _with_texts(statements), i, j, high), path)
