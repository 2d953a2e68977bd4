"""wholeshares.certificates, and that the checker accepts every certificate and nothing false."""

import itertools
import random
import time
import unittest
from fractions import Fraction

from tests import checker_model, drawn, steps_model
from tests.model import FEW_RULES, LONG_CLAIMS, LONG_RULE, MANY_CLAIMS, MANY_RULES, number
from tests.samples import LONG, NO_COUNTS, NO_NUMBERS, refusal
from tests.statement_samples import consistent_ones, mixed, true_statements
from tests.wrong_values import HALF, NO_RULES, no_claimant, no_claimants, no_statements
from wholeshares.certificates import (
    certify_different, certify_fair, certify_ratio, certify_statements, certify_unkind,
)
from wholeshares.checker import holds
from wholeshares.comparing import first_difference, first_unkind
from wholeshares.divisions import fair_division
from wholeshares.errors import (
    Inconsistent, InvalidClaimant, InvalidClaimants, InvalidClaims, InvalidCount, InvalidStatements, NotARule,
    TooManyItems,
)
from wholeshares.known import consistent, ratio_bounds, some_claims, steps_of
from wholeshares.rules import Rule
from wholeshares.samples import sample_rule, sample_statements

MOST = 10 ** 18


def with_texts(statements):
    return tuple(
        one if one[0] == "ratio" else (one[0], str(one[1]), one[2], one[3]) for one in statements
    )


class Checks(unittest.TestCase):
    def shown(self, certificate):
        """Check the form that all certificates have, and that both checkers accept it."""
        self.assertEqual((type(certificate), len(certificate)), (tuple, 2))
        claim, paper = certificate
        self.assertIs(holds(claim, paper), True)
        self.assertIs(checker_model.holds(claim, paper), True)
        return claim, paper


class DivisionsTest(Checks):
    def test_fair(self):
        for rule in MANY_RULES + (LONG_RULE,):
            for claims in MANY_CLAIMS + (LONG_CLAIMS,):
                for items in (0, 1, 5, 40, MOST):
                    with self.subTest(rule=str(rule), claims=claims, items=items):
                        claim, paper = self.shown(certify_fair(rule, claims, items))
                        numbers = tuple(drawn.pair(number(one)) for one in claims)
                        self.assertEqual(claim, ("fair", str(rule), numbers, fair_division(rule, claims, items)))
                        self.assertEqual(paper, ())

    def test_numbers_are_in_lowest_terms(self):
        claim, _ = self.shown(certify_fair(Rule((2, 4), (14, 20)), ((4, 2), 3, (9, 6)), 5))
        self.assertEqual(claim, ("fair", "7/10 | 1/2", ((2, 1), (3, 1), (3, 2)), (2, 2, 1)))

    def test_different(self):
        for rule, other in itertools.product(MANY_RULES, repeat=2):
            found, certificate = first_difference(rule, other), certify_different(rule, other)
            with self.subTest(rule=str(rule), other=str(other)):
                if found is None:
                    self.assertIsNone(certificate)
                    continue
                claim, paper = self.shown(certificate)
                self.assertEqual(claim, ("different", str(rule), str(other), *found[1:]))
                self.assertEqual((paper, claim[3]), ((), tuple(drawn.pair(number(one)) for one in claim[3])))

    def test_unkind(self):
        for rule, other in itertools.product(MANY_RULES + (LONG_RULE,), repeat=2):
            found, certificate = first_unkind(rule, other), certify_unkind(rule, other)
            with self.subTest(rule=str(rule), other=str(other)):
                if found is None:
                    self.assertIsNone(certificate)
                else:
                    self.assertEqual(self.shown(certificate), (("unkind", str(rule), str(other), *found), ()))

    def test_rules_with_the_same_marks(self):
        for rule, other in ((HALF, Rule((1, 2), (1, 2))), (Rule(1, 1, 2), Rule(1)), (sample_rule(), sample_rule())):
            self.assertIsNone(certify_different(rule, other))
            self.assertIsNone(certify_unkind(rule, other))


class StatementsTest(Checks):
    def test_drawn_statements(self):
        chance = random.Random(61)
        seen = {"satisfied": 0, "contradicted": 0}
        for _ in range(500):
            n, statements = mixed(chance, 6, 8)
            with self.subTest(n=n, statements=statements):
                certificate = certify_statements(n, statements)
                claim, _ = self.shown(certificate)
                seen[claim[0]] += 1
                word = "satisfied" if steps_model.consistent(n, steps_model.all_steps(statements)) else "contradicted"
                self.assertEqual(claim, (word, n, with_texts(statements)))
                self.assertEqual(certify_statements(n, statements), certificate)
        self.assertGreater(min(seen.values()), 100)

    def test_statements_stay_as_they_were_passed(self):
        statements = (
            ("fair", Rule((2, 4), (14, 20)), (1, 1), ((4, 6), 3)), ("ratio", 0, 1, (2, 4), (80, 10)), ("ratio", 1, 0, None, None),
        )
        claim, paper = self.shown(certify_statements(2, statements))
        self.assertEqual(claim, ("satisfied", 2, (("fair", "7/10 | 1/2", (1, 1), ((4, 6), 3)), *statements[1:])))
        self.assertEqual(paper, tuple(drawn.pair(number(one)) for one in paper))
        claim, _ = self.shown(certify_ratio(2, statements, 0, 1))
        self.assertEqual(claim[2], (("fair", "7/10 | 1/2", (1, 1), ((4, 6), 3)), *statements[1:]))

    def test_a_strict_step_alone(self):
        for word, expected in (("fair", "satisfied"), ("unique", "contradicted")):
            statements = (("ratio", 0, 1, 3, None), (word, Rule(1), (2, 1), None))
            claim, _ = self.shown(certify_statements(2, statements))
            self.assertEqual(claim[0], expected)

    def test_a_single_step_with_the_factor_0(self):
        statements = (("ratio", 0, 1, 1, None), ("unique", Rule(0), (1, 0, 1), None))
        claim, paper = self.shown(certify_statements(3, statements))
        self.assertEqual((claim[0], len(paper), paper[0][0]), ("contradicted", 1, 1))
        self.assertIn(paper[0][1], steps_of(3, statements[1]))

    def test_no_statements(self):
        for n in range(2, 7):
            claim, paper = self.shown(certify_statements(n, ()))
            self.assertEqual((claim, len(paper)), (("satisfied", n, ()), n))
            self.assertIsNone(certify_ratio(n, (), 0, n - 1))

    def test_claims_that_were_found_can_be_passed_on(self):
        chance = random.Random(62)
        for n, statements in consistent_ones(chance, 40, 6, 8):
            claims = some_claims(n, statements)
            rule, items = drawn.rule(chance), drawn.items(chance)
            with self.subTest(n=n, statements=statements):
                claim, _ = self.shown(certify_fair(rule, claims, items))
                self.assertEqual(claim[2], claims)
                known = (("fair", rule, claim[3], None),)
                self.assertTrue(all(steps_model.satisfies(claims, one) for one in known + statements))
                self.assertTrue(consistent(n, (known + statements)[:12]))


class RatioTest(Checks):
    def test_drawn_statements(self):
        chance = random.Random(63)
        seen = {True: 0, False: 0}
        for n, statements in consistent_ones(chance, 250, 5, 7):
            i, j = chance.sample(range(n), 2)
            high = ratio_bounds(n, statements, i, j)[2]
            certificate = certify_ratio(n, statements, i, j)
            seen[high is None] += 1
            with self.subTest(n=n, statements=statements, i=i, j=j):
                if high is None:
                    self.assertIsNone(certificate)
                    continue
                claim, paper = self.shown(certificate)
                self.assertEqual(claim, ("ratio", n, with_texts(statements), i, j, high))
                self.assertEqual(number(high), checker_model.product([(0, 0, number(step[2])) for _, step in paper]))
                # No smaller number is shown, neither by this paper nor by one of the other paths.
                less = drawn.pair(number(high) * (1 - Fraction(1, 10 ** 30)))
                self.assertIs(holds((*claim[:5], less), paper), False)
                self.assertIs(holds((*claim[:5], drawn.pair(number(high) * 2)), paper), True)
                self.assertEqual(certify_ratio(n, statements, i, j), certificate)
        self.assertGreater(min(seen.values()), 30)

    def test_a_path_through_all_claimants(self):
        for n in range(2, 7):
            statements = tuple(("ratio", k, k + 1, None, (k + 2, k + 1)) for k in range(n - 1))
            claim, paper = self.shown(certify_ratio(n, statements, 0, n - 1))
            self.assertEqual(claim[5], (n, 1))
            self.assertEqual([pair[0] for pair in paper], list(range(n - 2, -1, -1)))
            self.assertIsNone(certify_ratio(n, statements, n - 1, 0))

    def test_the_sample(self):
        claim, _ = self.shown(certify_ratio(3, sample_statements(), 0, 1))
        self.assertEqual(claim[3:], (0, 1, (3, 1)))


class ErrorsTest(unittest.TestCase):
    def test_rules(self):
        for value in NO_RULES:
            with self.subTest(type(value)):
                for rest in (((1, 1), 2), (None, None), ((1, 1), MOST + 1)):
                    with refusal(self, NotARule, value):
                        certify_fair(value, *rest)
                for function in (certify_different, certify_unkind):
                    with refusal(self, NotARule, value):
                        function(value, None)
                    with refusal(self, NotARule, value):
                        function(HALF, value)

    def test_claims_and_items(self):
        for value in NO_NUMBERS + (0, -1):
            for items in (2, None, MOST + 1):
                with self.subTest(value_class=type(value)), refusal(self, InvalidClaims, 1):
                    certify_fair(HALF, (1, value, value), items)
        for claims in ((), (1,) * 7, None, [1, 1]):
            with refusal(self, InvalidClaims, None):
                certify_fair(HALF, claims, -1)
        for value in NO_COUNTS:
            with self.subTest(value_class=type(value)), refusal(self, InvalidCount, value):
                certify_fair(HALF, (1, 1), value)
        with self.assertRaises(TooManyItems) as caught:
            certify_fair(HALF, (1, 1), MOST + 1)
        self.assertEqual(caught.exception.limit, MOST)

    def test_claimants_and_statements(self):
        for value in no_claimants(6):
            with self.subTest(type(value)):
                with refusal(self, InvalidClaimants, value):
                    certify_statements(value, None)
                with refusal(self, InvalidClaimants, value):
                    certify_ratio(value, None, None, None)
        for value in no_statements(3):
            with self.subTest(type(value)):
                with refusal(self, InvalidStatements, 1):
                    certify_statements(3, (("ratio", 0, 1, 2, 1), value))
                with refusal(self, InvalidStatements, 1):
                    certify_ratio(3, (("ratio", 0, 1, 2, 1), value), None, None)
        for value in (None, [], (("ratio", 0, 1, 1, 1),) * 13):
            with refusal(self, InvalidStatements, None):
                certify_statements(2, value)

    def test_texts_are_no_rules_here(self):
        with refusal(self, InvalidStatements, 0):
            certify_statements(2, (("fair", "| 1", (1, 1), None),))

    def test_i_and_j_and_finally_inconsistent(self):
        for statements in ((), (("ratio", 0, 1, 2, 1),)):
            for value in no_claimant(2):
                with self.subTest(value_class=type(value)):
                    with refusal(self, InvalidClaimant, value):
                        certify_ratio(2, statements, value, None)
                    with refusal(self, InvalidClaimant, value):
                        certify_ratio(2, statements, 1, value)
            with refusal(self, InvalidClaimant, 1):
                certify_ratio(2, statements, 1, 1)
        with self.assertRaises(Inconsistent):
            certify_ratio(2, (("ratio", 0, 1, 2, 1),), 0, 1)


class WholeTest(Checks):
    def test_the_longest_arguments_take_no_long_time(self):
        chance = random.Random(64)
        statements = true_statements(chance, LONG_CLAIMS, 11, (MOST, 10 ** 9)) + (("ratio", 0, 5, (1, LONG), LONG),)
        start = time.monotonic()
        self.shown(certify_statements(6, statements))
        self.shown(certify_statements(6, statements[:10] + (("ratio", 0, 1, 1, (1, LONG)),)))
        for i, j in itertools.permutations(range(6), 2):
            certificate = certify_ratio(6, statements, i, j)
            if certificate is not None:
                self.shown(certificate)
        self.assertLess(time.monotonic() - start, 15)

    def test_no_paper_of_a_certificate_shows_a_smaller_bound_or_another_division(self):
        for rule in FEW_RULES:
            for claims in ((5, 3), (4, 2, 1)):
                claim, paper = certify_fair(rule, claims, 7)
                for place in range(len(claims)):
                    more = tuple(count + 3 * (k == place) for k, count in enumerate(claim[3]))
                    bent = (*claim[:3], more)
                    self.assertIs(holds(bent, paper), checker_model.holds(bent, paper))

    def test_by_keyword(self):
        self.assertEqual(certify_fair(items=7, claims=(53, 24, 23), rule=Rule(1))[0][3], (4, 2, 1))
        self.assertEqual(certify_unkind(other_rule=HALF, rule=Rule(1)), (("unkind", "| 1", "| 1/2", 0, 1), ()))
        self.assertIsNone(certify_different(other_rule=HALF, rule=HALF))
        self.assertEqual(certify_statements(statements=(), claimants=2)[0], ("satisfied", 2, ()))
        self.assertIsNone(certify_ratio(j=1, i=0, statements=(), claimants=2))


if __name__ == "__main__":
    unittest.main()
