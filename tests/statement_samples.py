"""Statements that are consistent and statements that are not, drawn the same way in each run."""

from tests import drawn, steps_model
from wholeshares.divisions import fair_division

MOST = 10 ** 18


def true_statements(chance, claims, many, items=range(13)):
    """Return statements that the claims satisfy."""
    return tuple(drawn.true_statement(chance, claims, fair_division, items) for _ in range(many))


def any_statements(chance, claimants, many):
    """Return statements of which some may contradict each other."""
    return tuple(drawn.statement(chance, claimants) for _ in range(many))


def small_claims(chance, claimants):
    return tuple((chance.randint(1, 30), chance.randint(1, 4)) for _ in range(claimants))


def mixed(chance, most_claimants=4, most_statements=5):
    """Return a number of claimants and statements: true ones of some claims, any ones, or both."""
    claimants = chance.randint(2, most_claimants)
    many = chance.randint(0, most_statements)
    kind = chance.randrange(3)
    if kind == 0:
        return claimants, any_statements(chance, claimants, many)
    statements = true_statements(chance, small_claims(chance, claimants), many)
    if kind == 2 and many:
        statements = statements[1:] + any_statements(chance, claimants, 1)
    return claimants, statements


def consistent_ones(chance, times, most_claimants=4, most_statements=5):
    """Return many pairs of a number of claimants and consistent statements."""
    found = []
    while len(found) < times:
        claimants, statements = mixed(chance, most_claimants, most_statements)
        if steps_model.consistent(claimants, steps_model.all_steps(statements)):
            found.append((claimants, statements))
    return found
