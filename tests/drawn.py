"""Rules and claims drawn by chance, the same ones in each run."""

import random
from fractions import Fraction

from wholeshares.rules import Rule


def pair(fraction):
    return (fraction.numerator, fraction.denominator)


def _head(chance, length, offset):
    """Return a head of this length, often with marks close together, near 0 or near the end."""
    kind = chance.randrange(4)
    if kind == 0:
        marks = [Fraction(chance.randint(0, 7 * (length + 1)), 7) for _ in range(length)]
    elif kind == 1:
        marks = [Fraction(chance.randint(0, 99), 10 ** 9) for _ in range(length)]
    elif kind == 2:
        marks = [length + offset - Fraction(chance.randint(1, 99), 10 ** 5) for _ in range(length)]
    else:
        start = Fraction(chance.randint(0, 10 * length), 10)
        marks = [start + Fraction(chance.randint(0, 99), 1000) for _ in range(length)]
    if marks and chance.random() < 0.3:
        marks[0] = Fraction(0)
    return sorted(set(marks))


def rule(chance, lengths=range(9)):
    """Return a rule; its head has about one of these lengths."""
    bottom = chance.choice((1, 2, 3, 10, 10 ** 59))
    offset = Fraction(chance.choice((0, bottom, chance.randint(0, bottom))), bottom)
    while True:
        head = _head(chance, chance.choice(lengths), offset)
        if not head or 0 <= head[-1] < len(head) + offset:
            return Rule(pair(offset), *[pair(mark) for mark in head])


def claims(chance, claimants):
    """Return claims of this number of claimants: few different ones, many, long ones, or some far greater."""
    kind = chance.randrange(4)
    if kind == 0:
        return tuple(chance.randint(1, 4) for _ in range(claimants))
    if kind == 1:
        return tuple((chance.randint(1, 60), chance.randint(1, 13)) for _ in range(claimants))
    if kind == 2:
        return tuple((chance.randint(1, 10 ** 60 - 1), chance.randint(1, 10 ** 60 - 1)) for _ in range(claimants))
    return tuple(chance.choice((1, 7, 1000, 10 ** 18, 10 ** 59)) for _ in range(claimants))


def items(chance):
    """Return a number of items, a small one or one of any size up to 10 ** 18."""
    return chance.choice((
        chance.randint(0, 9), chance.randint(0, 60), chance.randint(0, 300), chance.randint(0, 10 ** 6),
        chance.randint(0, 10 ** 18), 10 ** 18 - chance.randint(0, 9), 10 ** 18,
    ))
