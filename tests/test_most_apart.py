"""wholeshares.comparing: most_apart."""

import bisect
import itertools
import time
import unittest

from tests.model import (
    FEW_RULES, LONG_RULE, MANY_RULES, all_fair, borders, claims_with, telling_ratios,
)
from wholeshares.comparing import most_apart
from wholeshares.rules import Rule

HALF = Rule((1, 2))


def by_definition(rule, other_rule, items):
    most = 0
    for ratio in telling_ratios((rule, other_rule), items):
        one, other = (all_fair(some, claims_with(ratio), items) for some in (rule, other_rule))
        if len(one) == len(other) == 1:
            most = max(most, abs(one[0][0] - other[0][0]))
    return most


def by_borders(rule, other_rule, items):
    """Return the same for two items or more: between borders, those passed are the count of claimant 0."""
    one, other = borders(rule, items), borders(other_rule, items)
    ratios = [ratio for ratio in telling_ratios((rule, other_rule), items) if ratio not in one + other]
    return max(abs(bisect.bisect(one, ratio) - bisect.bisect(other, ratio)) for ratio in ratios)


class MostApartTest(unittest.TestCase):
    def test_few_items_for_every_two_rules(self):
        seen = set()
        for rule, other_rule in itertools.combinations_with_replacement(FEW_RULES, 2):
            for items in (0, 1, 2, 3, 4, 7):
                expected = by_definition(rule, other_rule, items)
                seen.add(expected)
                with self.subTest(rule=str(rule), other_rule=str(other_rule), items=items):
                    self.assertEqual(most_apart(rule, other_rule, items), expected)
                    self.assertEqual(most_apart(other_rule, rule, items), expected)
        self.assertGreaterEqual(seen, {0, 1, 2})

    def test_more_items(self):
        for rule, other_rule in itertools.combinations(MANY_RULES, 2):
            for items in (2, 9, 12, 19):
                with self.subTest(rule=str(rule), other_rule=str(other_rule), items=items):
                    found = most_apart(rule, other_rule, items)
                    self.assertIs(type(found), int)
                    self.assertEqual(found, by_borders(rule, other_rule, items))
                    self.assertEqual(most_apart(other_rule, rule, items), found)

    def test_200_items(self):
        start = time.monotonic()
        pairs = ((Rule(0), Rule(1)), (HALF, Rule(0)), (HALF, Rule((1, 2), (7, 10))), (Rule(1), LONG_RULE),
                 (Rule(0, 0, 1, 2), Rule(1, *range(8))), (LONG_RULE, Rule((1, 10 ** 59), (1, 10 ** 59))))
        for rule, other_rule in pairs:
            for items in (199, 200):
                with self.subTest(rule=str(rule), other_rule=str(other_rule), items=items):
                    found = most_apart(rule, other_rule, items)
                    self.assertEqual(found, by_borders(rule, other_rule, items))
                    self.assertEqual(most_apart(other_rule, rule, items), found)
        self.assertLess(time.monotonic() - start, 30)

    def test_worked_out_by_hand(self):
        # The first eight items of each claimant are due almost at once: claimant 0 gets eight of 16 items
        # by this rule, though its claim is so tiny that it gets none of them by the other one.
        steep = Rule(1, *[(k + 1, 10 ** 59) for k in range(8)])
        for rule, other_rule, items, expected in (
            (Rule(0), Rule(1), 4, 1), (Rule(0), Rule(1), 2, 1), (Rule(0), HALF, 2, 1), (HALF, Rule(1), 2, 1),
            (Rule(0), Rule(1, 0), 2, 0), (Rule(0), Rule(1, 0), 3, 0), (Rule(0), Rule(1, 0), 4, 1),
            (Rule(0, 0, (1, 10 ** 59), (2, 10 ** 59)), Rule(0), 6, 2), (steep, Rule(1), 2, 0), (steep, Rule(1), 16, 8),
            (HALF, HALF, 200, 0), (Rule(1), Rule(1, 1, 2), 200, 0),
        ):
            with self.subTest(rule=str(rule), other_rule=str(other_rule), items=items):
                self.assertEqual(most_apart(rule, other_rule, items), expected)
                self.assertEqual(most_apart(other_rule, rule, items), expected)

    def test_no_items_and_one_item(self):
        # One item goes to the larger claim, or to any claimant if the first mark is 0: then it is never unique.
        for rule, other_rule in itertools.product(MANY_RULES, repeat=2):
            with self.subTest(rule=str(rule), other_rule=str(other_rule)):
                self.assertEqual(most_apart(rule, other_rule, 0), 0)
                self.assertEqual(most_apart(rule, other_rule, 1), 0)

    def test_equal_rules(self):
        for rule in MANY_RULES + (LONG_RULE,):
            for items in (2, 3, 10, 200):
                with self.subTest(rule=str(rule), items=items):
                    self.assertEqual(most_apart(rule, Rule(rule.offset, *rule.head), items), 0)
        for items in (2, 17, 200):
            self.assertEqual(most_apart(HALF, Rule((2, 4), (1, 2), (3, 2)), items), 0)

    def test_borders_that_coincide(self):
        # With three items the rules have all borders in common, with four items only the border 0.
        rule, other_rule = Rule((1, 2), 0), Rule(1, 0)
        self.assertEqual(set(borders(rule, 4)) & set(borders(other_rule, 4)), {0})
        self.assertEqual(set(borders(rule, 3)), set(borders(other_rule, 3)))
        self.assertEqual([most_apart(rule, other_rule, items) for items in (2, 3, 4)], [0, 0, 1])

    def test_by_keyword(self):
        self.assertEqual(most_apart(items=4, other_rule=Rule(1), rule=Rule(0)), 1)


if __name__ == "__main__":
    unittest.main()
