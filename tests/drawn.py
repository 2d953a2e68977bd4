"""Rules and claims drawn by chance, the same ones in each run."""

import random
from fractions import Fraction

from wholeshares.rules import Rule


def pair(fraction):
    return (fraction.numerator, fraction.denominator)


def _head(chance, length, offset):
    """Return a head of this length, often with marks close together, near 0 or near the end."""
    kind = chance.randrange(4)
    if kind == 0:
        marks = [Fraction(chance.randint(0, 7 * (length + 1)), 7) for _ in range(length)]
    elif kind == 1:
        marks = [Fraction(chance.randint(0, 99), 10 ** 9) for _ in range(length)]
    elif kind == 2:
        marks = [length + offset - Fraction(chance.randint(1, 99), 10 ** 5) for _ in range(length)]
    else:
        start = Fraction(chance.randint(0, 10 * length), 10)
        marks = [start + Fraction(chance.randint(0, 99), 1000) for _ in range(length)]
    if marks and chance.random() < 0.3:
        marks[0] = Fraction(0)
    return sorted(set(marks))


def rule(chance, lengths=range(9)):
    """Return a rule; its head has about one of these lengths."""
    bottom = chance.choice((1, 2, 3, 10, 10 ** 59))
    offset = Fraction(chance.choice((0, bottom, chance.randint(0, bottom))), bottom)
    while True:
        head = _head(chance, chance.choice(lengths), offset)
        if not head or 0 <= head[-1] < len(head) + offset:
            return Rule(pair(offset), *[pair(mark) for mark in head])


def claims(chance, claimants):
    """Return claims of this number of claimants: few different ones, many, long ones, or some far greater."""
    kind = chance.randrange(4)
    if kind == 0:
        return tuple(chance.randint(1, 4) for _ in range(claimants))
    if kind == 1:
        return tuple((chance.randint(1, 60), chance.randint(1, 13)) for _ in range(claimants))
    if kind == 2:
        return tuple((chance.randint(1, 10 ** 60 - 1), chance.randint(1, 10 ** 60 - 1)) for _ in range(claimants))
    return tuple(chance.choice((1, 7, 1000, 10 ** 18, 10 ** 59)) for _ in range(claimants))


def items(chance):
    """Return a number of items, a small one or one of any size up to 10 ** 18."""
    return chance.choice((
        chance.randint(0, 9), chance.randint(0, 60), chance.randint(0, 300), chance.randint(0, 10 ** 6),
        chance.randint(0, 10 ** 18), 10 ** 18 - chance.randint(0, 9), 10 ** 18,
    ))


def near(chance, value):
    """Return a number that is a fraction itself or not far from it, as an integer or a pair, not always lowest."""
    factor = chance.choice((1, 1, Fraction(9, 10), Fraction(11, 10), Fraction(1, 2), 2, 1 - Fraction(1, 10 ** 9)))
    result = value * factor
    more = chance.choice((1, 1, 2, 6))
    if result.denominator == 1 and chance.random() < 0.5:
        return result.numerator
    return (result.numerator * more, result.denominator * more)


def factors(chance, claimants):
    return chance.choice((None, tuple(chance.choice((1, 2, (1, 3), (4, 6))) for _ in range(claimants))))


def true_statement(chance, about, division_of, some_items=range(13)):
    """Return a statement that these claims satisfy; `division_of(rule, claims, items)` returns a fair division."""
    claimants = len(about)
    c = [Fraction(*claim) if isinstance(claim, tuple) else Fraction(claim) for claim in about]
    if chance.random() < 0.4:
        i, j = chance.sample(range(claimants), 2)
        ratio = c[i] / c[j]
        low = ratio * chance.choice((1, Fraction(9, 10), Fraction(1, 3)))
        high = ratio * chance.choice((1, Fraction(11, 10), 3))
        return ("ratio", i, j, chance.choice((None, pair(low))), chance.choice((None, pair(high))))
    some_factors = factors(chance, claimants)
    weighed = c
    if some_factors is not None:
        weighed = [one * (Fraction(*f) if isinstance(f, tuple) else f) for one, f in zip(c, some_factors)]
    some_rule = rule(chance, (0, 0, 1, 2, 8))
    division = division_of(some_rule, tuple(pair(one) for one in weighed), chance.choice(some_items))
    return ("fair", some_rule, division, some_factors)


def statement(chance, claimants):
    """Return any statement, which may be true of no claims."""
    if chance.random() < 0.5:
        i, j = chance.sample(range(claimants), 2)
        ratio = Fraction(chance.randint(1, 6), chance.randint(1, 6))
        return ("ratio", i, j, chance.choice((None, near(chance, ratio))), chance.choice((None, near(chance, ratio))))
    division = tuple(chance.choice((0, 1, 1, 2, 3, 9)) for _ in range(claimants))
    word = chance.choice(("fair", "unique"))
    return (word, rule(chance, (0, 0, 1, 2, 8)), division, factors(chance, claimants))
