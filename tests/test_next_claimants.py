"""wholeshares.divisions: next_claimants."""

import unittest

from tests.model import FEW_RULES, LONG_CLAIMS, LONG_RULE, MANY_CLAIMS, MANY_RULES, divisions, fair
from tests.samples import LONG, refusal
from wholeshares.divisions import fair_division, fair_divisions, next_claimants
from wholeshares.errors import NotFair
from wholeshares.rules import Rule

MOST_BY_CLAIMANTS = {1: 20, 2: 20, 3: 6, 4: 4, 5: 3, 6: 2}


def with_one_more(division, claimant):
    return division[:claimant] + (division[claimant] + 1,) + division[claimant + 1:]


def expected_next(rule, claims, division):
    return tuple(k for k in range(len(claims)) if fair(rule, claims, with_one_more(division, k)))


class NextClaimantsTest(unittest.TestCase):
    def test_every_small_division(self):
        seen = {True: 0, False: 0}
        for rule in MANY_RULES:
            for claims in MANY_CLAIMS:
                for items in range(MOST_BY_CLAIMANTS[len(claims)] + 1):
                    for division in divisions(len(claims), items):
                        is_fair = fair(rule, claims, division)
                        seen[is_fair] += 1
                        with self.subTest(rule=str(rule), claims=claims, division=division):
                            if is_fair:
                                found = next_claimants(rule, claims, division)
                                self.assertEqual(found, expected_next(rule, claims, division))
                                self.assertGreater(len(found), 0)
                            else:
                                with refusal(self, NotFair, division):
                                    next_claimants(rule, claims, division)
        self.assertGreater(min(seen.values()), 1000)

    def test_each_fair_division_of_many_items(self):
        for rule in FEW_RULES + (LONG_RULE,):
            for claims in MANY_CLAIMS + (LONG_CLAIMS,):
                for items in (100, 10 ** 18):
                    for division in fair_divisions(rule, claims, items):
                        with self.subTest(rule=str(rule), claims=claims, division=division):
                            expected = expected_next(rule, claims, division)
                            self.assertEqual(next_claimants(rule, claims, division), expected)
                            self.assertGreater(len(expected), 0)

    def test_step_by_step_from_no_items(self):
        for rule in FEW_RULES:
            for claims in MANY_CLAIMS:
                division = (0,) * len(claims)
                for items in range(1, 30):
                    division = with_one_more(division, next_claimants(rule, claims, division)[0])
                    with self.subTest(rule=str(rule), claims=claims, items=items):
                        self.assertEqual(division, fair_division(rule, claims, items))

    def test_worked_out_by_hand(self):
        for rule, claims, division, expected in (
            (Rule(1), (2, 1, 1), (0, 0, 0), (0,)),
            (Rule(1), (2, 1, 1), (2, 0, 0), (1, 2)),
            (Rule(1), (2, 1, 1), (1, 0, 0), (0, 1, 2)),
            (Rule(1), (2, 1, 1), (1, 1, 0), (0, 2)),
            (Rule(0), (2, 1, 1), (0, 0, 0), (0, 1, 2)),
            (Rule(0), (2, 1, 1), (0, 1, 0), (0, 2)),
            (Rule(0), (2, 1, 1), (1, 1, 1), (0,)),
            (Rule((1, 2)), (53, 24, 23), (3, 2, 2), (0,)),
            (Rule((1, 2)), (7,), (0,), (0,)),
            (Rule((1, 2), 0), (1, 10 ** 59), (0, 1), (0,)),
        ):
            with self.subTest(rule=str(rule), division=division):
                found = next_claimants(rule, claims, division)
                self.assertEqual(found, expected)
                self.assertEqual((type(found), {type(claimant) for claimant in found}), (tuple, {int}))

    def test_more_items_than_fair_divisions_allows(self):
        self.assertEqual(next_claimants(Rule(1), (1, 1), (LONG, LONG)), (0, 1))
        self.assertEqual(next_claimants(Rule(1), (1, 1), (LONG, LONG - 1)), (1,))
        self.assertEqual(next_claimants(LONG_RULE, (LONG,), (LONG,)), (0,))
        with refusal(self, NotFair, division := (LONG + 1, LONG - 1)):
            next_claimants(Rule(1), (1, 1), division)

    def test_by_keyword(self):
        self.assertEqual(next_claimants(division=(2, 0, 0), claims=(2, 1, 1), rule=Rule(1)), (1, 2))

    def test_arguments_stay_as_they_are(self):
        rule, claims, division = Rule((2, 4), (14, 20)), ((4, 2), 1, (3, 9)), (1, 1, 0)
        before = (str(rule), rule.offset, rule.head)
        next_claimants(rule, claims, division)
        self.assertEqual((str(rule), rule.offset, rule.head), before)
        self.assertEqual((claims, division), (((4, 2), 1, (3, 9)), (1, 1, 0)))


if __name__ == "__main__":
    unittest.main()
