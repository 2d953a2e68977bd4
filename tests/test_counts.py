"""wholeshares.known: count_bounds and possible_divisions."""

import itertools
import random
import unittest
from fractions import Fraction

from tests import drawn, steps_model
from tests.model import FEW_RULES, divisions, mark, number
from tests.statement_samples import consistent_ones, small_claims, true_statements
from wholeshares.divisions import fair_divisions
from wholeshares.known import consistent, count_bounds, possible_divisions, ratio_bounds, some_claims
from wholeshares.rules import Rule

HALF = Rule((1, 2))
MOST = 10 ** 18


def model_divisions(n, statements, rule, items):
    """Return the divisions whose steps, together with those of the statements, no ring contradicts."""
    steps = steps_model.all_steps(statements)
    return tuple(
        division for division in divisions(n, items)
        if steps_model.consistent(n, steps + steps_model.steps(("fair", rule, division, None)))
    )


def marks_below(rule, limit, or_at):
    """Return how many marks are less than the limit, or at most the limit."""
    low, high = 0, 1
    while mark(rule, high) <= limit:
        high *= 2
    while low < high:
        middle = (low + high) // 2
        below = mark(rule, middle) < limit or (or_at and mark(rule, middle) == limit)
        low, high = (middle + 1, high) if below else (low, middle)
    return low


def model_counts(n, statements, rule, items, i):
    """Return the least and the greatest count, by how many items of the others are due before an item of claimant i."""
    ratios = [steps_model.in_fractions(ratio_bounds(n, statements, j, i)) for j in range(n) if j != i]

    def can_have(count):
        """True if count items fit: those of the others that are due before the last one leave room."""
        last = mark(rule, count - 1)
        before = [
            marks_below(rule, last * low, or_at=not reached) if last > 0 else 0 for low, reached, _, _ in ratios
        ]
        return sum(before) <= items - count

    def can_stay_at(count):
        """True if the others may take all the rest before the next item is due."""
        following = mark(rule, count)
        if following == 0:
            return n - 1 >= items - count
        if any(high is None for _, _, high, _ in ratios):
            return True
        before = [marks_below(rule, following * high, or_at=reached) for _, _, high, reached in ratios]
        return sum(before) >= items - count

    def first(test, low, high):
        while low < high:
            middle = (low + high) // 2
            low, high = (low, middle) if test(middle) else (middle + 1, high)
        return low

    return first(can_stay_at, 0, items), first(lambda k: k == items + 1 or not can_have(k), 1, items + 1) - 1


class PossibleDivisionsTest(unittest.TestCase):
    def check(self, n, statements, rule, items):
        with self.subTest(n=n, statements=statements, rule=str(rule), items=items):
            found = possible_divisions(n, statements, rule, items)
            self.assertEqual(found, model_divisions(n, statements, rule, items))
            self.assertEqual(found, tuple(sorted(set(found), reverse=True)))
            # The bounds of counts are those of the divisions.
            for i in range(n):
                counts = [division[i] for division in found]
                self.assertEqual(count_bounds(n, statements, rule, items, i), (min(counts), max(counts)))
        return found

    def test_drawn_statements(self):
        chance = random.Random(31)
        for n, statements in consistent_ones(chance, 220):
            items = chance.randint(0, {2: 10, 3: 7, 4: 5}[n])
            self.check(n, statements, drawn.rule(chance, (0, 0, 1, 3, 8)), items)

    def test_rules_of_every_kind(self):
        chance = random.Random(32)
        for rule in FEW_RULES:
            for n, statements in consistent_ones(chance, 12, 3, 3):
                for items in (0, 1, n - 1, n, n + 1, 6):
                    self.check(n, statements, rule, items)

    def test_without_statements(self):
        for rule in FEW_RULES:
            for n, items in ((2, 10), (3, 5), (4, 4), (6, 2)):
                found = self.check(n, (), rule, items)
                expected = divisions(n, items)
                if mark(rule, 0) == 0:
                    expected = [row for row in expected if max(row) <= 1 or min(row) >= 1]
                self.assertEqual(list(found), expected)
        self.assertEqual(len(possible_divisions(6, (), HALF, 10)), 3003)
        self.assertEqual(len(possible_divisions(6, (), Rule(0), 10)), 126)

    def test_claims_for_each_division(self):
        chance = random.Random(33)
        for n, statements in consistent_ones(chance, 60, 5, 6):
            rule, items = drawn.rule(chance, (0, 0, 1, 3)), chance.randint(0, 10)
            found = possible_divisions(n, statements, rule, items)
            with self.subTest(n=n, statements=statements, rule=str(rule), items=items):
                for division in chance.sample(found, min(8, len(found))):
                    claims = some_claims(n, statements + (("fair", rule, division, None),))
                    self.assertIn(division, fair_divisions(rule, claims, items))
                    self.assertTrue(all(steps_model.satisfies(claims, one) for one in statements))
                claims = some_claims(n, statements)
                self.assertLessEqual(set(fair_divisions(rule, claims, items)), set(found))
                others = [row for row in divisions(n, items) if row not in set(found)] if n < 4 else []
                for division in others[:8]:
                    self.assertFalse(consistent(n, statements + (("fair", rule, division, None),)))

    def test_worked_out_by_hand(self):
        known = (("fair", Rule(1), (2, 1), None),)
        strict = (("unique", Rule(1), (2, 1), None),)
        for statements, rule, items, expected in (
            (known, Rule(0), 3, ((2, 1), (1, 2))),
            (strict, Rule(0), 3, ((2, 1),)),
            (known, Rule(1), 3, ((3, 0), (2, 1), (1, 2))),
            (strict, Rule(1), 3, ((2, 1),)),
            (known, Rule(1), 0, ((0, 0),)),
            (known, Rule(1), 1, ((1, 0), (0, 1))),
            (strict, Rule(1), 1, ((1, 0),)),
            (known, Rule(0), 1, ((1, 0), (0, 1))),
            (known, Rule(0), 2, ((1, 1),)),
            ((("ratio", 0, 1, 1, 1),), HALF, 10, ((5, 5),)),
            ((("ratio", 0, 1, 1, 1),), HALF, 9, ((5, 4), (4, 5))),
            ((), HALF, 1, ((1, 0), (0, 1))),
        ):
            with self.subTest(statements=statements, rule=str(rule), items=items):
                self.assertEqual(possible_divisions(2, statements, rule, items), expected)
                self.assertEqual(
                    possible_divisions(items=items, rule=rule, statements=statements, claimants=2), expected)


class CountBoundsTest(unittest.TestCase):
    def test_many_items_by_counting(self):
        chance = random.Random(34)
        for n, statements in consistent_ones(chance, 200, 5, 6):
            rule, items = drawn.rule(chance, (0, 0, 1, 3, 8)), drawn.items(chance)
            i = chance.randrange(n)
            with self.subTest(n=n, statements=statements, rule=str(rule), items=items, i=i):
                found = count_bounds(n, statements, rule, items, i)
                self.assertEqual([type(count) for count in found], [int, int])
                self.assertEqual(found, model_counts(n, statements, rule, items, i))

    def test_few_items_by_counting(self):
        # Ties, first marks of 0 and steps that are strict decide here.
        chance = random.Random(35)
        rules = (Rule(0), Rule(1), HALF, Rule((1, 2), 0), Rule(1, 0, (1, 3)), Rule(0, 0, 1, 2), Rule(0, (3, 2), (7, 4)))
        for n, statements in consistent_ones(chance, 150, 6, 5):
            for items in (0, 1, n - 1, n, n + 1, 2 * n, 3 * n + 1):
                rule, i = chance.choice(rules), chance.randrange(n)
                with self.subTest(n=n, statements=statements, rule=str(rule), items=items, i=i):
                    found = count_bounds(n, statements, rule, items, i)
                    self.assertEqual(found, model_counts(n, statements, rule, items, i))

    def test_claims_that_are_known_exactly(self):
        chance = random.Random(36)
        for _ in range(150):
            n = chance.randint(2, 6)
            claims = drawn.claims(chance, n)
            c = [number(claim) for claim in claims]
            ratios = [drawn.pair(c[k] / c[k + 1]) for k in range(n - 1)]
            statements = tuple(("ratio", k, k + 1, ratio, ratio) for k, ratio in enumerate(ratios))
            rule, items = drawn.rule(chance), drawn.items(chance)
            found = fair_divisions(rule, claims, items)
            with self.subTest(claims=claims, rule=str(rule), items=items):
                for i in range(n):
                    counts = [division[i] for division in found]
                    self.assertEqual(count_bounds(n, statements, rule, items, i), (min(counts), max(counts)))

    def test_claims_that_satisfy_the_statements_stay_within(self):
        chance = random.Random(37)
        for _ in range(150):
            claims = small_claims(chance, chance.randint(2, 6))
            n = len(claims)
            statements = true_statements(chance, claims, chance.randint(0, 9), (1, 5, 30, 10 ** 6))
            rule, items = drawn.rule(chance), drawn.items(chance)
            found = fair_divisions(rule, claims, items)
            with self.subTest(claims=claims, statements=statements, rule=str(rule), items=items):
                for i in range(n):
                    least, greatest = count_bounds(n, statements, rule, items, i)
                    self.assertLessEqual(least, min(division[i] for division in found))
                    self.assertGreaterEqual(greatest, max(division[i] for division in found))

    def test_strict_steps_decide_ties(self):
        # c[0] / c[1] is from 1 to 3: at 3 the third item of claimant 0 and the first of claimant 1 are due at once.
        plain, strict = (("fair", Rule(1), (2, 1), None),), (("unique", Rule(1), (2, 1), None),)
        for statements, items, expected in (
            (plain, 1, ((0, 1), (0, 1))), (strict, 1, ((1, 1), (0, 0))),
            (plain, 3, ((1, 3), (0, 2))), (strict, 3, ((2, 2), (1, 1))),
            (plain, 10, ((5, 8), (2, 5))), (strict, 10, ((5, 8), (2, 5))),
            (plain, 11, ((5, 9), (2, 6))), (strict, 11, ((6, 8), (3, 5))),
            (plain, MOST, ((MOST // 2, 3 * MOST // 4), (MOST // 4, MOST // 2))),
            (plain, MOST - 1, ((MOST // 2 - 1, 3 * MOST // 4), (MOST // 4 - 1, MOST // 2))),
            (strict, MOST - 1, ((MOST // 2, 3 * MOST // 4 - 1), (MOST // 4, MOST // 2 - 1))),
        ):
            with self.subTest(statements=statements, items=items):
                found = tuple(count_bounds(2, statements, Rule(1), items, i) for i in (0, 1))
                self.assertEqual(found, expected)

    def test_strict_steps_to_some_of_the_others(self):
        # Only the bound of claimant 2 is strict; by Rule(1) the items are due at 1, 2, 3, .. for claimant 0, at
        # 2, 4, 6, .. for claimant 1 and at 3/2, 3, 9/2, .. for claimant 2, whose items are a little later or earlier.
        factors = (1, 1, (3, 2))
        most = (("ratio", 1, 0, None, (1, 2)), ("unique", Rule(1), (1, 0, 0), factors))
        least = (("ratio", 1, 0, (1, 2), None), ("unique", Rule(1), (0, 0, 1), factors))
        found = [count_bounds(3, most, Rule(1), items, 0)[0] for items in range(1, 14)]
        self.assertEqual(found, [1, 1, 1, 2, 3, 3, 3, 4, 4, 5, 5, 6, 6])
        found = [count_bounds(3, least, Rule(1), items, 0)[1] for items in range(1, 14)]
        self.assertEqual(found, [1, 1, 2, 2, 2, 3, 4, 4, 4, 5, 5, 6, 6])

    def test_without_bounds(self):
        for n in (2, 3, 6):
            for items in (0, 1, n, n + 1, 40, MOST):
                for i in (0, n - 1):
                    with self.subTest(n=n, items=items, i=i):
                        self.assertEqual(count_bounds(n, (), HALF, items, i), (0, items))
                        expected = (int(items >= n), min(items, 1) if items <= n else items - n + 1)
                        self.assertEqual(count_bounds(n, (), Rule(0), items, i), expected)

    def test_one_claimant_without_a_bound(self):
        # Claimant 2 may claim as much or as little as one likes.
        statements = (("ratio", 0, 1, 2, 2),)
        for rule, items, expected in (
            (HALF, 30, ((0, 20), (0, 10), (0, 30))), (Rule(0), 30, ((1, 19), (1, 10), (1, 28))),
            (HALF, MOST, ((0, 2 * MOST // 3 + 1), (0, MOST // 3), (0, MOST))),
        ):
            with self.subTest(rule=str(rule), items=items):
                found = tuple(count_bounds(3, statements, rule, items, i) for i in range(3))
                self.assertEqual(found, expected)

    def test_by_keyword(self):
        known = (("fair", Rule(1), (2, 1), None),)
        self.assertEqual(count_bounds(i=0, items=10, rule=Rule(1), statements=known, claimants=2), (5, 8))


if __name__ == "__main__":
    unittest.main()
