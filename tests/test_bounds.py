"""wholeshares.known: ratio_bounds and part_bounds, and what changes none of the results."""

import itertools
import random
import time
import unittest
from fractions import Fraction

from tests import drawn, steps_model
from tests.model import LONG_CLAIMS, LONG_RULE, number
from tests.statement_samples import consistent_ones, true_statements
from wholeshares.divisions import fair_division
from wholeshares.known import (
    consistent, count_bounds, part_bounds, possible_divisions, ratio_bounds, some_claims,
)
from wholeshares.rules import Rule
from wholeshares.samples import sample_statements

HALF = Rule((1, 2))
MOST = 10 ** 18
TINY = Fraction(1, 10 ** 40)


def in_form(case, bounds):
    low, low_reached, high, high_reached = bounds
    case.assertEqual((type(bounds), type(low_reached), type(high_reached)), (tuple, bool, bool))
    for bound in (low, high):
        if bound is not None:
            case.assertEqual(bound, drawn.pair(number(bound)))


class RatioTest(unittest.TestCase):
    def check(self, n, statements, i, j):
        with self.subTest(n=n, statements=statements, i=i, j=j):
            found = ratio_bounds(n, statements, i, j)
            in_form(self, found)
            expected = steps_model.ratio_bounds(n, steps_model.all_steps(statements), i, j)
            self.assertEqual(steps_model.in_fractions(found), expected)
        return found

    def test_drawn_statements(self):
        chance = random.Random(21)
        for n, statements in consistent_ones(chance, 300):
            for i, j in itertools.permutations(range(n), 2):
                self.check(n, statements, i, j)

    def test_six_claimants(self):
        chance = random.Random(22)
        for n, statements in consistent_ones(chance, 12, 6, 12):
            for i, j in ((0, n - 1), (1, 0)):
                self.check(n, statements, i, j)

    def test_claims_at_the_bounds_and_none_beyond(self):
        # Whether a bound is reached, and whether it is the best one, by claims alone.
        chance = random.Random(23)
        kinds = set()
        for n, statements in consistent_ones(chance, 150, 5, 5):
            for i, j in chance.sample(list(itertools.permutations(range(n), 2)), 2):
                low, low_reached, high, high_reached = steps_model.in_fractions(ratio_bounds(n, statements, i, j))
                kinds.add((low > 0, low_reached, high is None, high_reached))
                with self.subTest(n=n, statements=statements, i=i, j=j):
                    at_low = (("ratio", i, j, None, drawn.pair(low)),) if low else ()
                    if low:
                        self.assertIs(consistent(n, statements + at_low), low_reached)
                        self.assertFalse(consistent(n, statements + (("ratio", i, j, None, drawn.pair(low - TINY)),)))
                    near = ("ratio", i, j, None, drawn.pair(low + TINY))
                    self.assertTrue(steps_model.satisfies(some_claims(n, statements + (near,)), near))
                    if high is None:
                        near = ("ratio", i, j, 10 ** 40, None)
                    else:
                        self.assertIs(consistent(n, statements + (("ratio", i, j, drawn.pair(high), None),)), high_reached)
                        self.assertFalse(consistent(n, statements + (("ratio", i, j, drawn.pair(high + TINY), None),)))
                        near = ("ratio", i, j, drawn.pair(high - TINY), None)
                    for claims in (some_claims(n, statements + (near,)),):
                        self.assertTrue(all(steps_model.satisfies(claims, one) for one in statements + (near,)))
        self.assertGreaterEqual(len(kinds), 6)

    def test_worked_out_by_hand(self):
        strict = ("unique", Rule(1), (2, 1), None)
        plain = ("fair", Rule(1), (2, 1), None)
        for n, statements, i, j, expected in (
            (2, (), 0, 1, ((0, 1), False, None, False)),
            (2, (plain,), 0, 1, ((1, 1), True, (3, 1), True)),
            (2, (plain,), 1, 0, ((1, 3), True, (1, 1), True)),
            (2, (strict,), 0, 1, ((1, 1), False, (3, 1), False)),
            (2, (strict, ("ratio", 0, 1, None, 2)), 0, 1, ((1, 1), False, (2, 1), True)),
            (2, (plain, strict), 0, 1, ((1, 1), False, (3, 1), False)),
            (2, (strict, ("ratio", 0, 1, 1, 3)), 0, 1, ((1, 1), False, (3, 1), False)),
            (2, (("fair", Rule(1), (2, 0), None),), 0, 1, ((2, 1), True, None, False)),
            (2, (("unique", Rule(1), (0, 3), None),), 0, 1, ((0, 1), False, (1, 3), False)),
            (2, (("fair", Rule(0), (1, 0), None),), 0, 1, ((0, 1), False, None, False)),
            (3, sample_statements(), 0, 2, ((7, 3), True, (4, 1), True)),
            (3, (("ratio", 0, 1, 2, 3), ("ratio", 1, 2, None, (1, 2))), 0, 2, ((0, 1), False, (3, 2), True)),
            (3, (("ratio", 0, 1, 2, 2), ("ratio", 1, 2, 5, 5)), 2, 0, ((1, 10), True, (1, 10), True)),
        ):
            with self.subTest(statements=statements, i=i, j=j):
                self.assertEqual(ratio_bounds(n, statements, i, j), expected)
                self.assertEqual(ratio_bounds(j=j, i=i, statements=statements, claimants=n), expected)

    def test_strictness_travels_along_paths(self):
        # A strict step on one of two equal paths is enough to keep the bound from being reached.
        def at_least(i, j, ratio, strict):
            if not strict:
                return ("ratio", i, j, ratio, None)
            factors = [(1, 10 ** 40)] * 3
            factors[i], factors[j] = 2, ratio
            return ("unique", Rule(1), tuple(2 if k == i else 0 for k in range(3)), tuple(factors))

        for first, second, direct in itertools.product((False, True), repeat=3):
            statements = (at_least(0, 1, 2, first), at_least(1, 2, 3, second), at_least(0, 2, 6, direct))
            for some in itertools.permutations(statements):
                with self.subTest(statements=some):
                    found = ratio_bounds(3, some, 0, 2)
                    self.assertEqual(found, ((6, 1), not (first or second or direct), None, False))
                    # A path with a greater product does not matter.
                    self.assertIs(ratio_bounds(3, some + (at_least(0, 2, 5, True),), 0, 2)[1], found[1])


class PartTest(unittest.TestCase):
    def test_drawn_statements(self):
        chance = random.Random(24)
        for n, statements in consistent_ones(chance, 300):
            for i in range(n):
                with self.subTest(n=n, statements=statements, i=i):
                    found = part_bounds(n, statements, i)
                    in_form(self, found)
                    expected = steps_model.part_bounds(n, steps_model.all_steps(statements), i)
                    self.assertEqual(steps_model.in_fractions(found), expected)

    def claims_at(self, n, statements, i, ends):
        """Return claims that satisfy the statements with c[j] / c[i] at (or very near to) its end, or None."""
        more = tuple(
            ("ratio", j, i, drawn.pair(low) if low else None, drawn.pair(high) if high else None)
            for j, (low, high) in ends.items()
        )
        return some_claims(n, statements + more) if consistent(n, statements + more) else None

    def test_claims_at_the_bounds_and_none_beyond(self):
        chance = random.Random(25)
        kinds = set()
        for n, statements in consistent_ones(chance, 150, 5, 5):
            i = chance.randrange(n)
            found = steps_model.in_fractions(part_bounds(n, statements, i))
            low, low_reached, high, high_reached = found
            kinds.add((low > 0, low_reached, high < 1, high_reached))
            ratios = {j: steps_model.in_fractions(ratio_bounds(n, statements, j, i)) for j in range(n) if j != i}
            with self.subTest(n=n, statements=statements, i=i):
                # Claims whose part is the upper bound, or very near to it.
                near = {j: (None, least + TINY) for j, (least, _, _, _) in ratios.items()}
                exact = {j: (least, least or TINY) for j, (least, _, _, _) in ratios.items()}
                self.check_near(self.claims_at(n, statements, i, near), i, high)
                if all(least for least, _, _, _ in ratios.values()):
                    self.assertIs(self.claims_at(n, statements, i, exact) is not None, high_reached)
                else:
                    self.assertIs(high_reached, False)
                # The same for the lower bound.
                if low == 0:
                    far = {j: (10 ** 40 if most is None else most - TINY, None) for j, (_, _, most, _) in ratios.items()}
                    self.check_near(self.claims_at(n, statements, i, far), i, low)
                    self.assertIs(low_reached, False)
                else:
                    near = {j: (most - TINY, None) for j, (_, _, most, _) in ratios.items()}
                    self.check_near(self.claims_at(n, statements, i, near), i, low)
                    exact = {j: (most, most) for j, (_, _, most, _) in ratios.items()}
                    self.assertIs(self.claims_at(n, statements, i, exact) is not None, low_reached)
                # Any claims lie within the bounds.
                claims = [number(claim) for claim in some_claims(n, statements)]
                part = claims[i] / sum(claims)
                self.assertTrue(low < part or (low == part and low_reached))
                self.assertTrue(part < high or (part == high and high_reached))
        self.assertGreaterEqual(len(kinds), 5)

    def check_near(self, claims, i, bound):
        claims = [number(claim) for claim in claims]
        self.assertLess(abs(claims[i] / sum(claims) - bound), Fraction(1, 10 ** 37))

    def test_worked_out_by_hand(self):
        for n, statements, i, expected in (
            (2, (), 0, ((0, 1), False, (1, 1), False)),
            (6, (), 5, ((0, 1), False, (1, 1), False)),
            (2, (("ratio", 0, 1, 1, 3),), 0, ((1, 2), True, (3, 4), True)),
            (2, (("ratio", 0, 1, 1, 3),), 1, ((1, 4), True, (1, 2), True)),
            (2, (("unique", Rule(1), (2, 1), None),), 0, ((1, 2), False, (3, 4), False)),
            (3, (("ratio", 0, 1, 1, 3),), 0, ((0, 1), False, (3, 4), False)),
            (3, (("ratio", 0, 1, 1, 3), ("ratio", 0, 2, None, 1)), 0, ((0, 1), False, (3, 7), True)),
            (3, (("ratio", 0, 1, 1, 3), ("ratio", 0, 2, 1, None)), 0, ((1, 3), True, (3, 4), False)),
            (3, (("ratio", 0, 1, 1, 3), ("unique", Rule(1), (1, 0, 0), None)), 0, ((1, 3), False, (3, 4), False)),
            (3, sample_statements(), 0, ((7, 15), True, (12, 19), True)),
        ):
            with self.subTest(statements=statements, i=i):
                self.assertEqual(part_bounds(n, statements, i), expected)
                self.assertEqual(part_bounds(i=i, statements=statements, claimants=n), expected)


def same_results(n, statements, rule, order=None):
    """Return all results; if an order is given, those of its claimants in this order."""
    order = list(range(n)) if order is None else order
    ratios = [ratio_bounds(n, statements, i, j) for i in order for j in order if i != j]
    parts = [part_bounds(n, statements, i) for i in order]
    counts = [count_bounds(n, statements, rule, items, i) for items in (3, n, 9, MOST) for i in order]
    divisions = [
        sorted(tuple(row[i] for i in order) for row in possible_divisions(n, statements, rule, items)) for items in (2, n)
    ]
    return ratios, parts, counts, divisions


def turned(statement):
    """Return a statement about a ratio the other way round."""
    if statement[0] != "ratio":
        return statement
    _, i, j, low, high = statement
    return ("ratio", j, i, *[None if one is None else drawn.pair(1 / number(one)) for one in (high, low)])


def with_other_factors(statement):
    if statement[0] == "ratio" or statement[3] is None:
        return statement
    return (*statement[:3], tuple(drawn.pair(number(factor) * Fraction(7, 3)) for factor in statement[3]))


def not_lowest(value):
    top, bottom = value if isinstance(value, tuple) else (value, 1)
    return (6 * top, 6 * bottom)


def not_in_lowest_terms(statement):
    if statement[0] == "ratio":
        return (*statement[:3], *[None if one is None else not_lowest(one) for one in statement[3:]])
    word, rule, division, factors = statement
    if factors is None:
        return (word, rule, division, ((5, 5),) * len(division))
    return (word, rule, division, tuple(not_lowest(factor) for factor in factors))


def with_longer_heads(statement):
    if statement[0] == "ratio":
        return statement
    word, rule, division, factors = statement
    return (word, Rule(rule.offset, *[rule.mark(k) for k in range(8)]), division, factors)


def renamed(statement, names):
    """Return the statement with claimant k called names[k]."""
    if statement[0] == "ratio":
        return ("ratio", names[statement[1]], names[statement[2]], *statement[3:])
    word, rule, division, factors = statement
    order = sorted(range(len(names)), key=names.__getitem__)
    return (word, rule, tuple(division[k] for k in order), factors and tuple(factors[k] for k in order))


class SameTest(unittest.TestCase):
    """Statements that tell the same give the same results."""

    def samples(self):
        chance = random.Random(26)
        for n, statements in consistent_ones(chance, 40):
            yield chance, n, statements, drawn.rule(chance, (0, 0, 1, 3))

    def test_other_forms_of_the_same_statements(self):
        for chance, n, statements, rule in self.samples():
            expected = same_results(n, statements, rule)
            forms = [turned, with_other_factors, not_in_lowest_terms, with_longer_heads]
            for others in [tuple(form(one) for one in statements) for form in forms] + [
                tuple(chance.sample(statements, len(statements))), statements * 2, statements[::-1] + statements[:1],
                statements + (("ratio", 0, 1, None, None),),
            ]:
                with self.subTest(n=n, statements=statements, others=others):
                    self.assertEqual(same_results(n, others, rule), expected)

    def test_claimants_in_another_order(self):
        for chance, n, statements, rule in self.samples():
            names = chance.sample(range(n), n)
            others = tuple(renamed(one, names) for one in statements)
            with self.subTest(n=n, statements=statements, names=names):
                self.assertEqual(same_results(n, others, rule, names), same_results(n, statements, rule))

    def test_one_statement_more_never_widens_a_bound(self):
        chance = random.Random(27)
        for n, statements in consistent_ones(chance, 80, 4, 6):
            if not statements:
                continue
            rule = drawn.rule(chance, (0, 0, 1, 3))
            i, j = chance.sample(range(n), 2)
            for function, more in (
                (ratio_bounds, (i, j)), (part_bounds, (i,)), (count_bounds, (rule, 8, i)), (count_bounds, (rule, MOST, i)),
            ):
                wide, narrow = function(n, statements[:-1], *more), function(n, statements, *more)
                with self.subTest(function=function.__name__, n=n, statements=statements):
                    if function is count_bounds:
                        self.assertLessEqual(wide[0], narrow[0])
                        self.assertLessEqual(narrow[1], wide[1])
                        continue
                    wide, narrow = steps_model.in_fractions(wide), steps_model.in_fractions(narrow)
                    self.assertLessEqual((wide[0], not wide[1]), (narrow[0], not narrow[1]))
                    if wide[2] is not None:
                        self.assertLessEqual((narrow[2], narrow[3]), (wide[2], wide[3]))
            every = possible_divisions(n, statements[:-1], rule, 5)
            self.assertLessEqual(set(possible_divisions(n, statements, rule, 5)), set(every))


class TimeTest(unittest.TestCase):
    def test_the_longest_arguments(self):
        chance = random.Random(28)
        last = 10 ** 60 - 1
        statements = tuple(
            ("fair", LONG_RULE, fair_division(LONG_RULE, LONG_CLAIMS, items), None)
            for items in (7, 50, 10 ** 6, MOST, MOST - 1, 99)
        ) + true_statements(chance, LONG_CLAIMS, 5, (MOST,)) + (("ratio", 0, 5, (1, last), last),)
        self.assertEqual(len(statements), 12)
        start = time.monotonic()
        for i in range(6):
            in_form(self, part_bounds(6, statements, i))
            in_form(self, ratio_bounds(6, statements, i, (i + 1) % 6))
            for rule in (LONG_RULE, Rule(0), HALF):
                least, greatest = count_bounds(6, statements, rule, MOST, i)
                self.assertLessEqual(least, greatest)
        for rule in (LONG_RULE, Rule(0), HALF):
            self.assertGreater(len(possible_divisions(6, statements, rule, 10)), 0)
            self.assertEqual(len(possible_divisions(6, (), HALF, 10)), 3003)
        self.assertLess(time.monotonic() - start, 15)


if __name__ == "__main__":
    unittest.main()
