"""What the document says of claims and papers, with fractions; nothing here calls the program, except to create rules."""

import re
from fractions import Fraction

from tests import steps_model
from tests.model import fair, mark
from wholeshares.rules import Rule

NUMBER = r"(?:0|[1-9][0-9]*)(?:/[1-9][0-9]*)?"


def is_int(value):
    return type(value) is int


def is_tuple(value, length):
    return type(value) is tuple and len(value) == length


def is_positive(value):
    if is_tuple(value, 2):
        return is_int(value[0]) and is_int(value[1]) and value[0] > 0 and value[1] > 0
    return is_int(value) and value > 0


def are_positive(value, length):
    return is_tuple(value, length) and all(is_positive(one) for one in value)


def are_counts(value, length):
    return is_tuple(value, length) and all(is_int(one) and one >= 0 for one in value)


def rule_with(text):
    """Return the rule with exactly this text, or None."""
    if type(text) is not str or not re.fullmatch(rf"(?:{NUMBER} )*\| {NUMBER}", text, re.ASCII):
        return None
    words = text.split(" ")
    numbers = [Fraction(word) for word in words if word != "|"]
    if [str(one) for one in numbers] != [word for word in words if word != "|"]:
        return None
    *head, offset = numbers
    marks = head + [len(head) + offset]
    if len(head) > 8 or offset > 1 or any(one >= other for one, other in zip(marks, marks[1:])):
        return None
    return Rule((offset.numerator, offset.denominator), *[(one.numerator, one.denominator) for one in head])


def statement_with_rule(value, n):
    """Return a statement for the steps model, or None if the value is no statement with texts for rules."""
    if is_tuple(value, 4):
        word, text, division, factors = value
        rule = rule_with(text)
        if type(word) is not str or word not in ("fair", "unique") or rule is None or not are_counts(division, n):
            return None
        return (word, rule, division, factors) if factors is None or are_positive(factors, n) else None
    if not is_tuple(value, 5) or type(value[0]) is not str or value[0] != "ratio":
        return None
    _, i, j, low, high = value
    if not all(is_int(one) and 0 <= one < n for one in (i, j)) or i == j:
        return None
    return value if all(one is None or is_positive(one) for one in (low, high)) else None


def statements_with_rules(n, values):
    if not is_int(n) or not 2 <= n <= 6 or type(values) is not tuple or len(values) > 12:
        return None
    found = [statement_with_rule(value, n) for value in values]
    return None if None in [one if one is None else 0 for one in found] else found


def path_steps(paper, statements):
    """Return the steps of a PATH with fractions, or None."""
    if type(paper) is not tuple or not paper:
        return None
    path = []
    for pair in paper:
        if not is_tuple(pair, 2) or not is_int(pair[0]) or not 0 <= pair[0] < len(statements):
            return None
        step = pair[1]
        if not is_tuple(step, 4) or not is_tuple(step[2], 2) or type(step[3]) is not bool:
            return None
        if not all(is_int(one) for one in (step[0], step[1], *step[2])):
            return None
        expected = [
            (i, j, (factor.numerator, factor.denominator), strict)
            for i, j, factor, strict in steps_model.steps(statements[pair[0]])
        ]
        if step not in expected or (path and path[-1][1] != step[0]):
            return None
        path.append((step[0], step[1], Fraction(*step[2]), step[3]))
    return path


def product(path):
    result = Fraction(1)
    for step in path:
        result *= step[2]
    return result


def _about_division(claim, paper):
    *texts, claims, division = claim[1:]
    rules = [rule_with(text) for text in texts]
    if any(rule is None for rule in rules) or not is_tuple(paper, 0):
        return False
    if type(claims) is not tuple or not 1 <= len(claims) <= 6:
        return False
    if not are_positive(claims, len(claims)) or not are_counts(division, len(claims)):
        return False
    return [fair(rule, claims, division) for rule in rules].count(True) == 1


def _unkind(claim, paper):
    _, text, other_text, k, m = claim
    rule, other_rule = rule_with(text), rule_with(other_text)
    if rule is None or other_rule is None or not is_tuple(paper, 0) or not is_int(k) or not is_int(m) or not 0 <= k < m:
        return False
    return mark(rule, k) / mark(rule, m) > mark(other_rule, k) / mark(other_rule, m)


def _about_statements(claim, paper):
    word, n, values = claim[:3]
    statements = statements_with_rules(n, values)
    if statements is None:
        return False
    if word == "satisfied":
        return are_positive(paper, n) and all(steps_model.satisfies(paper, one) for one in statements)
    path = path_steps(paper, statements)
    if path is None:
        return False
    if word == "contradicted":
        if len(path) == 1:
            return path[0][2] == 0
        total = product(path)
        return path[-1][1] == path[0][0] and (total < 1 or (total == 1 and any(step[3] for step in path)))
    i, j, number = claim[3:]
    if not all(is_int(one) and 0 <= one < n for one in (i, j)) or i == j or not is_positive(number):
        return False
    number = Fraction(*number) if type(number) is tuple else Fraction(number)
    return path[0][0] == j and path[-1][1] == i and product(path) <= number


LENGTHS = {"fair": 4, "different": 5, "unkind": 5, "satisfied": 3, "contradicted": 3, "ratio": 6}


def holds(claim, paper):
    if type(claim) is not tuple or not claim or type(claim[0]) is not str or LENGTHS.get(claim[0]) != len(claim):
        return False
    if claim[0] in ("fair", "different"):
        return _about_division(claim, paper)
    return _unkind(claim, paper) if claim[0] == "unkind" else _about_statements(claim, paper)
