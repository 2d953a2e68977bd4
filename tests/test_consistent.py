"""wholeshares.known: consistent, some_claims and contradiction."""

import itertools
import random
import time
import unittest
from fractions import Fraction

from tests import drawn, steps_model
from tests.model import LONG_CLAIMS, LONG_RULE, number
from tests.statement_samples import consistent_ones, mixed, small_claims, true_statements
from wholeshares.divisions import fair_division
from wholeshares.errors import Inconsistent
from wholeshares.known import consistent, contradiction, some_claims, steps_of
from wholeshares.rules import Rule

HALF = Rule((1, 2))
MOST = 10 ** 18


class Checks(unittest.TestCase):
    def check_claims(self, claimants, statements, claims):
        self.assertEqual((type(claims), len(claims)), (tuple, claimants))
        for claim in claims:
            self.assertGreater(number(claim), 0)
            self.assertEqual(claim, drawn.pair(number(claim)))
        for statement in statements:
            self.assertTrue(steps_model.satisfies(claims, statement))

    def check_ring(self, claimants, statements, ring):
        self.assertIs(type(ring), tuple)
        product, strict = Fraction(1), False
        for place, step in ring:
            self.assertIn(step, steps_of(claimants, statements[place]))
            product *= number(step[2])
            strict = strict or step[3]
        steps = [step for _, step in ring]
        if len(ring) > 1 or product > 0:
            for step, following in zip(steps, steps[1:] + steps[:1]):
                self.assertEqual(step[1], following[0])
        self.assertTrue(product < 1 or (product == 1 and strict))
        self.assertEqual(len({step[0] for step in steps}), len(steps))

    def check(self, claimants, statements):
        """Check all three functions, and return whether the statements are consistent."""
        expected = steps_model.consistent(claimants, steps_model.all_steps(statements))
        with self.subTest(claimants=claimants, statements=statements):
            self.assertIs(consistent(claimants, statements), expected)
            ring = contradiction(claimants, statements)
            if expected:
                self.assertIsNone(ring)
                claims = some_claims(claimants, statements)
                self.check_claims(claimants, statements, claims)
                self.assertEqual(some_claims(claimants, statements), claims)
            else:
                self.check_ring(claimants, statements, ring)
                self.assertEqual(contradiction(claimants, statements), ring)
                with self.assertRaises(Inconsistent) as caught:
                    some_claims(claimants, statements)
                self.assertEqual(vars(caught.exception), {})
        return expected


class ConsistentTest(Checks):
    def test_drawn_statements(self):
        chance = random.Random(11)
        seen = {True: 0, False: 0}
        for _ in range(900):
            seen[self.check(*mixed(chance))] += 1
        self.assertGreater(min(seen.values()), 200)

    def test_six_claimants(self):
        chance = random.Random(12)
        seen = {True: 0, False: 0}
        for _ in range(50):
            seen[self.check(*mixed(chance, 6, 12))] += 1
        self.assertGreater(min(seen.values()), 5)

    def test_known_claims_are_never_contradicted(self):
        chance = random.Random(13)
        for _ in range(150):
            claims = drawn.claims(chance, chance.randint(2, 6))
            n = len(claims)
            statements = true_statements(chance, claims, 12, (0, 1, 2, 5, 9, 40, 10 ** 9, MOST))
            with self.subTest(claims=claims, statements=statements):
                for statement in statements:
                    self.assertTrue(steps_model.satisfies(claims, statement))
                self.assertIs(consistent(n, statements), True)
                self.assertIsNone(contradiction(n, statements))
                self.check_claims(n, statements, some_claims(n, statements))

    def test_rings_through_all_claimants(self):
        for n in range(2, 7):
            for rest in (Fraction(1), Fraction(999, 1000), 1 + Fraction(1, 10 ** 50), 1 - Fraction(1, 10 ** 50)):
                ratios = [Fraction(k + 2, k + 1) for k in range(n - 1)]
                product = Fraction(1)
                for ratio in ratios:
                    product *= ratio
                ratios.append(rest / product)
                order = [(5 * k + 2) % n for k in range(n)] if n != 5 else [2, 0, 3, 1, 4]
                statements = tuple(
                    ("ratio", order[(k + 1) % n], order[k], None, drawn.pair(ratio)) for k, ratio in enumerate(ratios)
                )
                with self.subTest(n=n, rest=rest):
                    self.assertIs(self.check(n, statements), rest >= 1)
                    if rest < 1:
                        self.assertEqual(len(contradiction(n, statements)), n)

    def test_a_ring_behind_a_chain_of_other_rings(self):
        # The ratios along a chain are known exactly, so the way there and back is a ring that contradicts nothing.
        for n in range(3, 7):
            for names in itertools.permutations(range(n)):
                chain = tuple(("ratio", i, j, (3, 2), (3, 2)) for i, j in zip(names[:-2], names[1:-1]))
                for statement, expected in ((("ratio", names[-2], names[-1], 2, 1), False),
                                            (("ratio", names[-2], names[-1], 2, 2), True)):
                    if names[0] < names[-1] or n < 6:
                        self.assertIs(consistent(n, chain + (statement,)), expected)
                    if not expected:
                        ring = contradiction(n, chain + (statement,))
                        self.check_ring(n, chain + (statement,), ring)
                        self.assertEqual({place for place, _ in ring}, {n - 2})

    def test_few_steps_among_six_claimants(self):
        chance = random.Random(17)
        seen = {True: 0, False: 0}
        for _ in range(500):
            statements = []
            for _ in range(12):
                i, j = chance.sample(range(6), 2)
                low, high = sorted((chance.choice((1, 2, 4, 8)), chance.choice((1, 2, 4, 8))))
                statements.append(("ratio", i, j, *chance.choice(((low, high), (None, high), ((low, 4), None)))))
            if chance.random() < 0.5:
                division = chance.choice(((2, 1, 0, 0, 0, 0), (0, 0, 3, 0, 0, 1), (0, 1, 0, 0, 1, 0)))
                statements[0] = ("unique", Rule(1), division, None)
            seen[self.check(6, tuple(statements[:chance.randint(2, 12)]))] += 1
        self.assertGreater(min(seen.values()), 100)

    def test_one_strict_step_decides(self):
        # c[0] = 3 * c[1] is just what both statements about divisions allow, if they are not strict.
        for n in (2, 3, 6):
            zeros = (0,) * (n - 2)
            exact = ("ratio", 0, 1, 3, 3)
            for word in ("fair", "unique"):
                for division in ((2, 0) + zeros, (1, 1) + zeros):
                    with self.subTest(n=n, word=word, division=division):
                        self.assertIs(self.check(n, (exact, (word, HALF, division, None))), word == "fair")
                        both = (("ratio", 0, 1, 3, None), (word, HALF, (1, 1) + zeros, None))
                        self.assertIs(self.check(n, both), word == "fair")

    def test_steps_with_the_factor_0(self):
        for rule in (Rule(0), Rule((1, 2), 0), Rule(1, 0, (1, 3))):
            for n in (2, 3, 6):
                rest = (1,) * (n - 2)
                for word, pair, expected in (
                    ("fair", (1, 0), True), ("unique", (1, 0), False), ("fair", (2, 0), False),
                    ("unique", (2, 0), False), ("fair", (0, 0), True), ("unique", (1, 1), True), ("fair", (0, 3), False),
                ):
                    statement = (word, rule, pair + rest, None)
                    if pair == (0, 0) and n > 2:
                        continue
                    with self.subTest(rule=str(rule), statement=statement):
                        self.assertIs(self.check(n, (statement,)), expected)
                        self.assertIs(self.check(n, (("ratio", 0, 1, 1, 1), statement)), expected)
                        if not expected:
                            (place, step), = contradiction(n, (("ratio", 0, 1, 1, 1), statement))
                            self.assertEqual((place, step[2]), (1, (0, 1)))

    def test_all_ratios_fixed_exactly(self):
        chance = random.Random(14)
        for _ in range(80):
            n = chance.randint(2, 6)
            claims = drawn.claims(chance, n)
            c = [number(claim) for claim in claims]
            order = chance.sample(range(n), n)
            statements = []
            for i, j in zip(order, order[1:]):
                ratio = drawn.pair(c[i] / c[j])
                statements += chance.choice((
                    [("ratio", i, j, ratio, ratio)], [("ratio", i, j, None, ratio), ("ratio", i, j, ratio, None)],
                    [("ratio", j, i, ratio[::-1], ratio[::-1])],
                ))
            statements.append(("fair", LONG_RULE, fair_division(LONG_RULE, claims, 10 ** 9), None))
            with self.subTest(claims=claims):
                found = [number(claim) for claim in some_claims(n, tuple(statements))]
                self.assertEqual([one / found[0] for one in found], [one / c[0] for one in c])
                self.check_claims(n, statements, some_claims(n, tuple(statements)))
                i, j = order[0], order[-1]
                wrong = ("ratio", i, j, drawn.pair(c[i] / c[j] * (1 + Fraction(1, 10 ** 30))), None)
                statements = (*statements[:10], wrong)
                if len(statements) < 11 and not steps_model.consistent(n, steps_model.all_steps(statements)):
                    self.check_ring(n, statements, contradiction(n, statements))

    def test_no_statements(self):
        for n in range(2, 7):
            self.assertIs(self.check(n, ()), True)
            self.assertIs(self.check(n, (("ratio", 0, 1, None, None),) * 12), True)

    def test_a_statement_that_contradicts_itself(self):
        for statement in (("ratio", 0, 1, 2, 1), ("fair", HALF, (5, 1), (1, 1)), ("ratio", 1, 0, (2, 3), (3, 5))):
            self.assertIs(self.check(2, (statement,)), statement[0] == "fair")

    def test_claims_stay_short(self):
        # Claims within wide bounds need no long numbers, however long the numbers of the bounds are.
        bounds = tuple(("ratio", k, k + 1, (10 ** 59 + k, 10 ** 59 + 7), (4 * 10 ** 59 + 1, 10 ** 59)) for k in range(5))
        for claim in some_claims(6, bounds):
            self.assertLess(max(claim), 10 ** 6)

    def test_by_keyword(self):
        statements = (("ratio", 0, 1, 2, 1),)
        self.assertIs(consistent(statements=statements, claimants=2), False)
        self.assertEqual(len(contradiction(statements=statements, claimants=2)), 2)
        self.assertEqual(len(some_claims(statements=(), claimants=3)), 3)

    def test_the_longest_arguments_take_no_long_time(self):
        start = time.monotonic()
        division = fair_division(LONG_RULE, LONG_CLAIMS, MOST)
        last = 10 ** 60 - 1
        statements = tuple(
            ("unique" if k % 2 else "fair", LONG_RULE, division, tuple((last - k, last - k - j) for j in range(6)))
            for k in range(12)
        )
        for several in (statements[:6], statements):
            if consistent(6, several):
                self.check_claims(6, several, some_claims(6, several))
            else:
                self.check_ring(6, several, contradiction(6, several))
        apart = (("ratio", 0, 1, None, (1, last)), ("ratio", 1, 0, None, (1, last))) + statements[:10]
        self.check_ring(6, apart, contradiction(6, apart))
        self.assertLess(time.monotonic() - start, 10)


class RelationsTest(Checks):
    def test_statements_in_another_order_and_twice(self):
        chance = random.Random(15)
        for _ in range(200):
            n, statements = mixed(chance)
            others = chance.sample(statements, len(statements)) + list(statements[:3])
            with self.subTest(statements=statements):
                self.assertIs(consistent(n, tuple(others)), consistent(n, statements))
                self.check(n, tuple(others))

    def test_the_claims_of_some_satisfy_fewer_statements(self):
        chance = random.Random(16)
        for n, statements in consistent_ones(chance, 100):
            claims = some_claims(n, statements)
            for k in range(len(statements)):
                self.check_claims(n, statements[:k], claims)
                self.assertIs(consistent(n, statements[:k]), True)


if __name__ == "__main__":
    unittest.main()
