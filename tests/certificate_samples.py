"""Certificates, and claims and papers that are bent at one place."""

import random

from tests import drawn
from tests.samples import EqualToAll, Plain, Unequal
from tests.statement_samples import mixed
from wholeshares.certificates import (
    certify_different, certify_fair, certify_ratio, certify_statements, certify_unkind,
)
from wholeshares.errors import Inconsistent
from wholeshares.known import consistent
from wholeshares.rules import Rule


def certificates(seed, times):
    """Return certificates of all kinds."""
    chance = random.Random(seed)
    found = []
    for _ in range(times):
        rule, other = drawn.rule(chance), drawn.rule(chance)
        found.append(certify_fair(rule, drawn.claims(chance, chance.randint(1, 6)), drawn.items(chance)))
        found += [certify_different(rule, other), certify_unkind(rule, other)]
        n, statements = mixed(chance, 5, 6)
        found.append(certify_statements(n, statements))
        if consistent(n, statements):
            i, j = chance.sample(range(n), 2)
            found.append(certify_ratio(n, statements, i, j))
    return [one for one in found if one is not None]


def by_kind(some):
    kinds = {}
    for claim, paper in some:
        kinds.setdefault(claim[0], []).append((claim, paper))
    return kinds


# What stands in for any part of a claim or a paper.
STRANGE = (
    None, True, False, 0, 1, 2, 3, -1, 7, 13, 10 ** 59, "", "0", "fair", "unique", "ratio", "satisfied", "contradicted",
    "different", "unkind", "| 1", "|1", "| 1/2", "| 2/4", "| 3/2", "0 | 1", "1 0 | 1", "1/2 | 1/2", " | 1", "| 1 ",
    b"fair", (), [], {}, (0, 1), (1, 1), (1, 2), (2, 4), (1, 0), (True, 1), (1, True), [1, 2], {1: 2}, frozenset(), Rule(1),
    Plain(), EqualToAll(), Unequal(), range(2), len, complex(1, 1),
)


def bent_near(value):
    """Return values of the same kind that are near to a value, or that have another form."""
    if type(value) is bool:
        return [not value, int(value), None]
    if type(value) is int:
        return [value + 1, value - 1, -value, value + 10 ** 20, (value, 1), str(value), [value]]
    if type(value) is str:
        return [value + " ", " " + value, value.upper(), value[:-1], value.replace("|", " |"), value.encode(), [value]]
    if type(value) is tuple:
        found = [list(value), value + value, value[:-1], value[1:], value[::-1], value + (0,), (value,)]
        if len(value) == 2 and all(type(one) is int for one in value):
            found += [(2 * value[0], 2 * value[1]), (-value[0], -value[1]), (value[0], 0)]
        return found + [value[1:] + value[:1]]
    return [0, (), "None"]


def bent(value, strange=STRANGE, depth=0):
    """Return the value with another one at one place, at any depth."""
    found = list(bent_near(value)) + (list(strange) if depth else [])
    if type(value) is tuple:
        for place, part in enumerate(value):
            found += [value[:place] + (other,) + value[place + 1:] for other in bent(part, strange, depth + 1)]
    return found


def refuses(function, *arguments):
    try:
        function(*arguments)
    except Inconsistent:
        return True
    return False
