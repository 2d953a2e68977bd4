"""wholeshares.divisions: is_fair."""

import unittest

from tests.model import FEW_RULES, LONG_CLAIMS, LONG_RULE, MANY_CLAIMS, MANY_RULES, divisions, fair
from tests.samples import LONG
from wholeshares.divisions import is_fair
from wholeshares.rules import Rule

# Few enough items to look at every division of them.
MOST_BY_CLAIMANTS = {1: 9, 2: 7, 3: 5, 4: 4, 5: 3, 6: 3}


class IsFairTest(unittest.TestCase):
    def test_every_small_division(self):
        seen = {True: 0, False: 0}
        for rule in MANY_RULES:
            for claims in MANY_CLAIMS:
                for items in range(MOST_BY_CLAIMANTS[len(claims)] + 1):
                    for division in divisions(len(claims), items):
                        expected = fair(rule, claims, division)
                        seen[expected] += 1
                        with self.subTest(rule=str(rule), claims=claims, division=division):
                            self.assertIs(is_fair(rule, claims, division), expected)
        self.assertGreater(min(seen.values()), 1000)

    def test_counts_in_the_head_at_its_end_and_behind_it(self):
        for rule in MANY_RULES:
            for claims in ((1, 1), (3, 2), (2, 7), (10, 1)):
                for items in (8, 9, 10, 17, 18, 30):
                    for division in divisions(2, items):
                        with self.subTest(rule=str(rule), claims=claims, division=division):
                            self.assertIs(is_fair(rule, claims, division), fair(rule, claims, division))

    def test_the_condition_holds_with_equality(self):
        # Each of these limits is reached exactly; the least change of a claim breaks it.
        for rule, claims, division in ((Rule(1), (2, 1), (2, 0)), (Rule((1, 2)), (3, 1), (2, 0)),
                                       (Rule(1), (LONG, 1), (LONG, 0)), (Rule((1, 2), (7, 10)), (15, 7), (2, 0)),
                                       (Rule(0, 0), (2, 1), (3, 1)), (Rule(0, (3, 2), (7, 4)), (7, 6), (2, 0))):
            first, second = claims
            changed = ((first * 10 ** 59 - 1, 10 ** 59), second)
            with self.subTest(rule=str(rule), division=division):
                self.assertIs(is_fair(rule, claims, division), True)
                self.assertIs(is_fair(rule, changed, division), False)
                self.assertIs(is_fair(rule, (second, first), division[::-1]), True)
                self.assertIs(is_fair(rule, changed[::-1], division[::-1]), False)

    def test_each_two_claimants_count(self):
        # Among equal claims, no two others break the condition here.
        claims = ((1, 3),) * 6
        for one in range(6):
            for other in range(6):
                division = [5] * 6
                division[one] += 1
                division[other] -= 1
                with self.subTest(one=one, other=other):
                    self.assertIs(is_fair(Rule(1), claims, tuple(division)), one == other)

    def test_one_claimant_alone(self):
        for rule in FEW_RULES:
            for division in ((0,), (1,), (2,), (9,), (10 ** 18,), (LONG,)):
                with self.subTest(rule=str(rule), division=division):
                    self.assertIs(is_fair(rule, (LONG,), division), True)

    def test_first_marks_of_0(self):
        # Every claimant gets a first item before any gets a second one; who is first does not matter.
        for rule in (Rule(0), Rule((1, 2), 0), Rule(1, 0, (1, 3))):
            for division, expected in (((1, 0), True), ((0, 1), True), ((2, 0), False), ((0, 2), False),
                                       ((1, 1), True), ((0, 0), True)):
                with self.subTest(rule=str(rule), division=division):
                    self.assertIs(is_fair(rule, (10 ** 59, 1), division), expected)

    def test_no_items(self):
        for rule in MANY_RULES:
            for claims in MANY_CLAIMS:
                with self.subTest(rule=str(rule), claims=claims):
                    self.assertIs(is_fair(rule, claims, (0,) * len(claims)), True)

    def test_counts_as_long_as_a_caller_may_pass_them(self):
        for rule in (Rule(0), Rule(1), Rule((1, 2)), LONG_RULE):
            for division, expected in (((LONG, LONG), True), ((LONG + 1, LONG), True), ((LONG + 2, LONG), False)):
                with self.subTest(rule=str(rule), division=division):
                    self.assertIs(is_fair(rule, (1, 1), division), expected)
        division = tuple(LONG + k for k in range(6))
        self.assertIs(is_fair(LONG_RULE, LONG_CLAIMS, division), fair(LONG_RULE, LONG_CLAIMS, division))

    def test_by_position_and_by_keyword(self):
        self.assertIs(is_fair(Rule(1), (53, 24, 23), (4, 2, 1)), True)
        self.assertIs(is_fair(rule=Rule(1), claims=(53, 24, 23), division=(4, 2, 1)), True)
        self.assertIs(is_fair(division=(5, 1, 1), claims=(53, 24, 23), rule=Rule(1)), False)
        self.assertIs(is_fair(Rule(1), division=(4, 2, 1), claims=(53, 24, 23)), True)

    def test_arguments_stay_as_they_are(self):
        rule, claims, division = Rule((2, 4), (14, 20)), ((4, 2), 1, (3, 9)), (2, 1, 0)
        before = (str(rule), rule.offset, rule.head)
        is_fair(rule, claims, division)
        self.assertEqual((str(rule), rule.offset, rule.head), before)
        self.assertEqual((claims, division), (((4, 2), 1, (3, 9)), (2, 1, 0)))


if __name__ == "__main__":
    unittest.main()
