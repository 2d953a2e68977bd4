"""The checker: it accepts a claim if the paper shows it, and searches for nothing itself."""

from wholeshares.divisions import is_fair
from wholeshares.errors import InvalidText
from wholeshares.forms import are_positive, is_claimant, is_division, is_number_of_claimants, is_place, is_tuple_of
from wholeshares.limits import MOST_CLAIMANTS, MOST_STATEMENTS
from wholeshares.numeric import as_pair, is_count, is_int, is_less, is_positive
from wholeshares.rules import Rule
from wholeshares.statements import contradicts, is_statement, product_of, satisfies, steps_in


def _rule_with(text):
    """Return the rule with this text, or None."""
    try:
        return Rule.read(text)
    except InvalidText:
        return None


def _are_claims_and_division(claims, division):
    if not isinstance(claims, tuple) or not 1 <= len(claims) <= MOST_CLAIMANTS:
        return False
    return are_positive(claims, len(claims)) and is_division(division, len(claims))


def _shows_fair(claim, paper):
    _, text, claims, division = claim
    rule = _rule_with(text)
    if rule is None or not _are_claims_and_division(claims, division) or not is_tuple_of(paper, 0):
        return False
    return is_fair(rule, claims, division)


def _shows_different(claim, paper):
    _, text, other_text, claims, division = claim
    rule, other_rule = _rule_with(text), _rule_with(other_text)
    if rule is None or other_rule is None or not is_tuple_of(paper, 0):
        return False
    if not _are_claims_and_division(claims, division):
        return False
    return is_fair(rule, claims, division) != is_fair(other_rule, claims, division)


def _shows_unkind(claim, paper):
    _, text, other_text, small, large = claim
    rule, other_rule = _rule_with(text), _rule_with(other_text)
    if rule is None or other_rule is None or not is_tuple_of(paper, 0):
        return False
    if not is_count(small) or not is_count(large) or small >= large:
        return False
    # The marks with the number `large` are greater than 0, so the quotients can be compared by products.
    mark = rule.whole_mark(small) * other_rule.whole_mark(large)
    return mark > rule.whole_mark(large) * other_rule.whole_mark(small)


def _with_rule(statement):
    """Return a statement with the rule in the place of its text; with None there if there is no such rule."""
    if not is_tuple_of(statement, 4):
        return statement
    word, text, division, factors = statement
    return (word, _rule_with(text), division, factors)


def _steps_by_place(claimants, statements):
    """Return the steps of each statement, or None if there are not so many claimants and such statements."""
    if not is_number_of_claimants(claimants) or not isinstance(statements, tuple):
        return None
    if len(statements) > MOST_STATEMENTS:
        return None
    read = [_with_rule(statement) for statement in statements]
    if not all([is_statement(statement, claimants) for statement in read]):
        return None
    return [steps_in(statement) for statement in read]


def _is_step(value):
    if not is_tuple_of(value, 4) or not is_tuple_of(value[2], 2):
        return False
    integers = [value[0], value[1], *value[2]]
    return all([is_int(integer) for integer in integers]) and isinstance(value[3], bool)


def _path(paper, steps_by_place):
    """Return the steps of a paper that is a path, or an empty list."""
    if not isinstance(paper, tuple):
        return []
    path = []
    for pair in paper:
        if not is_tuple_of(pair, 2) or not is_place(pair[0], len(steps_by_place)):
            return []
        place, step = pair
        if not _is_step(step) or step not in steps_by_place[place]:
            return []
        if path and path[-1][1] != step[0]:
            return []
        path.append(step)
    return path


def _shows_satisfied(claim, paper):
    _, claimants, statements = claim
    steps_by_place = _steps_by_place(claimants, statements)
    if steps_by_place is None or not are_positive(paper, claimants):
        return False
    claims = [as_pair(number) for number in paper]
    return all([satisfies(claims, step) for steps in steps_by_place for step in steps])


def _shows_contradicted(claim, paper):
    _, claimants, statements = claim
    steps_by_place = _steps_by_place(claimants, statements)
    path = [] if steps_by_place is None else _path(paper, steps_by_place)
    if not path:
        return False
    product, strict = product_of(path)
    if len(path) == 1:
        return product[0] == 0
    return path[-1][1] == path[0][0] and contradicts(product, strict)


def _shows_ratio(claim, paper):
    _, claimants, statements, i, j, number = claim
    steps_by_place = _steps_by_place(claimants, statements)
    if steps_by_place is None or not is_claimant(i, claimants) or not is_claimant(j, claimants):
        return False
    path = _path(paper, steps_by_place)
    if i == j or not is_positive(number) or not path:
        return False
    product, _ = product_of(path)
    return path[0][0] == j and path[-1][1] == i and not is_less(as_pair(number), product)


# For each kind of claims its length, and what checks it.
KINDS = {
    "fair": (4, _shows_fair),
    "different": (5, _shows_different),
    "unkind": (5, _shows_unkind),
    "satisfied": (3, _shows_satisfied),
    "contradicted": (3, _shows_contradicted),
    "ratio": (6, _shows_ratio),
}


def holds(claim, paper):
    """Return True if the paper shows the claim; anything may be passed."""
    if not isinstance(claim, tuple) or not claim or not isinstance(claim[0], str) or claim[0] not in KINDS:
        return False
    length, shows = KINDS[claim[0]]
    return len(claim) == length and shows(claim, paper)
