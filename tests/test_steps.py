"""wholeshares.known: steps_of, and what a statement is."""

import random
import unittest

from tests import drawn, steps_model
from tests.model import LONG_CLAIMS, LONG_RULE, MANY_RULES, number
from tests.samples import LONG, refusal
from tests.statement_samples import any_statements, small_claims, true_statements
from tests.wrong_values import HALF, no_claimants, no_statements
from wholeshares.errors import InvalidClaimants, InvalidStatements
from wholeshares.known import consistent, some_claims, steps_of
from wholeshares.rules import Rule


def expected_steps(statement):
    return tuple((i, j, drawn.pair(factor), strict) for i, j, factor, strict in steps_model.steps(statement))


class StepsTest(unittest.TestCase):
    def check(self, claimants, statement):
        with self.subTest(statement=statement):
            found = steps_of(claimants, statement)
            self.assertEqual(found, expected_steps(statement))
            self.assertIs(type(found), tuple)
            for step in found:
                kinds = [type(part) for part in step] + [type(part) for part in step[2]]
                self.assertEqual(kinds, [int, int, tuple, bool, int, int])

    def test_divisions_by_every_rule(self):
        for rule in MANY_RULES + (LONG_RULE,):
            for word in ("fair", "unique"):
                for division in ((0, 0), (1, 0), (0, 1), (2, 1), (7, 9), (8, 8), (1, 1, 0), (0, 2, 3), (4, 0, 0, 1),
                                 (3, 1, 4, 1, 5), (9, 2, 6, 5, 3, 5), (0,) * 6, (1,) * 6):
                    n = len(division)
                    for factors in (None, (1,) * n, tuple((k + 1, 2) for k in range(n)), ((4, 6),) + (3,) * (n - 1)):
                        self.check(n, (word, rule, division, factors))

    def test_ratios(self):
        bounds = (None, 1, 2, (1, 2), (2, 4), (6, 3), LONG, (LONG, LONG + 1), (1, LONG))
        for low in bounds:
            for high in bounds:
                for n, i, j in ((2, 0, 1), (2, 1, 0), (3, 2, 0), (6, 4, 5), (6, 5, 0)):
                    self.check(n, ("ratio", i, j, low, high))

    def test_numbers_of_39_digits(self):
        chance = random.Random(9)
        for _ in range(60):
            def long():
                return chance.randint(10 ** 38, 10 ** 39 - 1)
            n = chance.randint(2, 6)
            rule = Rule((long() // 2, 10 ** 39), *[(k * 10 ** 38 + long() // 10, 10 ** 38) for k in range(4)])
            division = tuple(chance.choice((0, 1, 2, 3, 4, 5, long())) for _ in range(n))
            factors = chance.choice((None, tuple((long(), long()) for _ in range(n)), tuple(long() for _ in range(n))))
            self.check(n, (chance.choice(("fair", "unique")), rule, division, factors))
            self.check(n, ("ratio", 0, n - 1, chance.choice((None, long(), (long(), long()))), (long(), long())))

    def test_worked_out_by_hand(self):
        for claimants, statement, expected in (
            (2, ("fair", Rule(1), (2, 1), None), ((0, 1, (1, 1), False), (1, 0, (3, 1), False))),
            (2, ("unique", Rule(1), (2, 0), (3, 1)), ((0, 1, (3, 2), True),)),
            (2, ("fair", Rule(0), (1, 0), None), ()),
            (2, ("unique", Rule(0), (1, 0), None), ((0, 1, (0, 1), True),)),
            (2, ("unique", Rule(0), (1, 1), None), ()),
            (2, ("fair", Rule(0), (2, 0), None), ((0, 1, (0, 1), False),)),
            (2, ("unique", Rule(0), (2, 0), None), ((0, 1, (0, 1), True),)),
            (3, ("unique", Rule(0), (1, 0, 1), None),
             ((0, 1, (0, 1), True), (2, 1, (0, 1), True))),
            (2, ("fair", HALF, (0, 0), None), ()),
            (2, ("unique", HALF, (1, 1), (1, 2)), ((0, 1, (3, 2), True), (1, 0, (6, 1), True))),
            (2, ("ratio", 0, 1, None, None), ()),
            (2, ("ratio", 0, 1, 2, 3), ((1, 0, (3, 1), False), (0, 1, (1, 2), False))),
            (3, ("ratio", 2, 0, (4, 6), None), ((2, 0, (3, 2), False),)),
            (3, ("ratio", 2, 0, None, (6, 4)), ((0, 2, (3, 2), False),)),
            (2, ("ratio", 0, 1, 3, 2), ((1, 0, (2, 1), False), (0, 1, (1, 3), False))),
        ):
            with self.subTest(statement=statement):
                self.assertEqual(steps_of(claimants, statement), expected)
                self.assertEqual(steps_of(statement=statement, claimants=claimants), expected)

    def test_claims_satisfy_a_statement_if_they_satisfy_its_steps(self):
        chance = random.Random(10)
        seen = {True: 0, False: 0}
        for _ in range(1500):
            n = chance.randint(2, 6)
            claims = small_claims(chance, n)
            statement, = chance.choice((any_statements(chance, n, 1), true_statements(chance, claims, 1)))
            if chance.random() < 0.5 and statement[0] == "fair":
                statement = ("unique",) + statement[1:]
            steps = [(i, j, number(factor), strict) for i, j, factor, strict in steps_of(n, statement)]
            with self.subTest(claims=claims, statement=statement):
                satisfied = steps_model.satisfies(claims, statement)
                self.assertEqual(satisfied, all(steps_model.satisfies_step(claims, step) for step in steps))
            seen[satisfied] += 1
        self.assertGreater(min(seen.values()), 200)


class StatementsTest(unittest.TestCase):
    def test_what_is_no_statement(self):
        for n in (2, 3, 6):
            good = ("fair", HALF, (1,) * n, None)
            for value in no_statements(n):
                with self.subTest(n=n, value_class=type(value)):
                    with refusal(self, InvalidStatements, 0):
                        steps_of(n, value)
                    with refusal(self, InvalidStatements, 0):
                        consistent(n, (value,))
                    with refusal(self, InvalidStatements, 1):
                        consistent(n, (good, value, value))
                    with refusal(self, InvalidStatements, 11):
                        consistent(n, (good,) * 11 + (value,))

    def test_statements_about_other_numbers_of_claimants(self):
        for n in range(2, 7):
            for other in range(2, 7):
                for statement in (("fair", HALF, (1,) * other, None), ("unique", HALF, (0,) * other, (1,) * other),
                                  ("ratio", 0, other - 1, 1, 2)):
                    valid = other == n or (other < n and statement[0] == "ratio")
                    with self.subTest(n=n, statement=statement):
                        if valid:
                            self.assertEqual(steps_of(n, statement), expected_steps(statement))
                        else:
                            with refusal(self, InvalidStatements, 0):
                                steps_of(n, statement)

    def test_no_tuples_and_more_than_12_statements(self):
        good = ("ratio", 0, 1, None, None)
        for value in (None, 0, True, "", "ratio", [], [good], {}, {good: 1}, HALF, (None,) * 13, (good,) * 13,
                      (good,) * 12 + (None,), (good,) * 100, range(2), frozenset()):
            with self.subTest(value_class=type(value)), refusal(self, InvalidStatements, None):
                consistent(2, value)
        self.assertIs(consistent(2, (good,) * 12), True)
        self.assertIs(consistent(2, ()), True)

    def test_claimants_come_first(self):
        for value in no_claimants(6):
            for statement in (("ratio", 0, 1, None, None), None, 7):
                with self.subTest(value_class=type(value)):
                    with refusal(self, InvalidClaimants, value):
                        steps_of(value, statement)
                    with refusal(self, InvalidClaimants, value):
                        consistent(value, (statement,))

    def test_longest_numbers_are_accepted(self):
        top = 10 ** 60 - 1
        for statement in (("unique", LONG_RULE, (top,) * 6, LONG_CLAIMS), ("fair", LONG_RULE, (top, 0, 0, 0, 0, 1), None),
                          ("ratio", 5, 0, (1, top), (top, top - 1))):
            with self.subTest(statement=statement):
                self.assertEqual(steps_of(6, statement), expected_steps(statement))
        claims = some_claims(6, (("fair", LONG_RULE, (top,) * 6, LONG_CLAIMS),))
        self.assertTrue(steps_model.satisfies(claims, ("fair", LONG_RULE, (top,) * 6, LONG_CLAIMS)))

    def test_arguments_stay_as_they_are(self):
        statement = ("fair", Rule((2, 4), (14, 20)), (2, 1), ((4, 2), 1))
        before = repr(statement)
        steps_of(2, statement)
        some_claims(2, (statement,) * 12)
        self.assertEqual(repr(statement), before)


if __name__ == "__main__":
    unittest.main()
