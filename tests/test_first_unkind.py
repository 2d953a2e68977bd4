"""wholeshares.comparing: first_unkind."""

import itertools
import time
import unittest
from fractions import Fraction

from tests.model import FEW_RULES, LONG_RULE, MANY_RULES, all_fair, claims_with, mark, marks_of, telling_ratios
from tests.samples import LONG
from wholeshares.comparing import first_unkind
from wholeshares.rules import Rule

HALF = Rule((1, 2))
SAMPLE = Rule((1, 2), (7, 10))
FAR = 40


def expected_pair(rule, other_rule):
    """Return the pair with the least l, then the least k, among many more than the heads contain."""
    marks, others = marks_of(rule, FAR), marks_of(other_rule, FAR)
    for l in range(FAR):
        for k in range(l):
            if marks[k] / marks[l] > others[k] / others[l]:
                return (k, l)
    return None


def gives_less(rule, other_rule, items):
    """Return True if some claims c[0] < c[1] show that the rule is less kind to small claims."""
    for ratio in telling_ratios((rule, other_rule), items):
        if ratio < 1:
            one, other = (all_fair(some, claims_with(ratio), items) for some in (rule, other_rule))
            if len(one) == len(other) == 1 and one[0][0] < other[0][0]:
                return True
    return False


class FirstUnkindTest(unittest.TestCase):
    def test_every_two_rules(self):
        seen = set()
        for rule, other_rule in itertools.product(MANY_RULES + FEW_RULES, repeat=2):
            expected = expected_pair(rule, other_rule)
            seen.add(expected)
            with self.subTest(rule=str(rule), other_rule=str(other_rule)):
                found = first_unkind(rule, other_rule)
                self.assertEqual(found, expected)
                if found is not None:
                    self.assertEqual([type(part) for part in (found, *found)], [tuple, int, int])
        self.assertGreaterEqual(seen, {None, (0, 1), (1, 2), (1, 8), (8, 9)})

    def test_claims_of_two_claimants(self):
        for rule, other_rule in itertools.permutations(FEW_RULES, 2):
            found = first_unkind(rule, other_rule)
            with self.subTest(rule=str(rule), other_rule=str(other_rule)):
                if found is None:
                    for items in (0, 1, 2, 3, 4, 6, 9, 10, 12):
                        self.assertFalse(gives_less(rule, other_rule, items))
                else:
                    self.assertTrue(gives_less(rule, other_rule, sum(found) + 1))

    def test_worked_out_by_hand(self):
        for rule, other_rule, expected in (
            (Rule(0), Rule(1), None), (Rule(1), HALF, (0, 1)), (SAMPLE, HALF, (0, 1)), (HALF, SAMPLE, None),
            (Rule(0), HALF, None), (HALF, Rule(0), (0, 1)), (HALF, Rule(1), None), (Rule(1), Rule(0), (0, 1)),
            # Both first marks are 0, so their ratios to the other marks are equal.
            (Rule(1, 0), Rule(0), (1, 2)), (Rule(0), Rule(1, 0), None),
            (Rule((1, 2), 0), Rule(0), (1, 2)), (Rule(0), Rule((1, 2), 0), None),
            # A greater mark 1 makes m(0) / m(1) less, but m(1) / m(2) greater.
            (Rule((1, 2), (1, 2), (8, 5)), HALF, (1, 2)), (HALF, Rule((1, 2), (1, 2), (8, 5)), (0, 1)),
        ):
            with self.subTest(rule=str(rule), other_rule=str(other_rule)):
                self.assertEqual(first_unkind(rule, other_rule), expected)

    def test_equal_rules(self):
        for rule in MANY_RULES + (LONG_RULE,):
            with self.subTest(str(rule)):
                self.assertIsNone(first_unkind(rule, rule))
                self.assertIsNone(first_unkind(rule, Rule(rule.offset, *rule.head)))
        self.assertIsNone(first_unkind(HALF, Rule((2, 4), (1, 2), (3, 2))))
        self.assertIsNone(first_unkind(Rule(1, *range(1, 9)), Rule(1)))

    def test_each_mark_of_the_head(self):
        # A greater mark k only makes the ratios to those behind it greater, a less one those of the marks before it.
        for k in range(8):
            more = Rule((1, 2), *[(2 * j + 1, 2) for j in range(k)], (10 * k + 6, 10))
            less = Rule((1, 2), *[(2 * j + 1, 2) for j in range(k)], (10 * k + 4, 10))
            with self.subTest(k):
                self.assertEqual(first_unkind(more, HALF), (k, k + 1))
                self.assertEqual(first_unkind(less, HALF), (0, k) if k else None)
                self.assertEqual(first_unkind(HALF, more), (0, k) if k else None)
                self.assertEqual(first_unkind(HALF, less), (k, k + 1))

    def test_pairs_at_the_end_of_the_heads_and_behind_them(self):
        # Marks that are in the same proportion as those of the other rule up to the mark 7, or even the mark 8.
        near = [(49 * (2 * k + 1), 100) for k in range(8)]
        for rule, other_rule, expected in (
            (Rule(0, *range(8)), Rule(1, *range(8)), (1, 8)),
            (Rule(1, *range(8)), Rule(0, *range(8)), (8, 9)),
            (Rule(0, 0, *[(9 * k, 10) for k in range(1, 8)]), Rule(0), None),
            (Rule(0), Rule(0, 0, *[(9 * k, 10) for k in range(1, 8)]), (1, 8)),
            (Rule(1, *[(8 * (k + 1), 9) for k in range(8)]), Rule(1), None),
            (Rule(1), Rule(1, *[(8 * (k + 1), 9) for k in range(8)]), (0, 8)),
            (Rule((33, 100), *near), HALF, None),
            (HALF, Rule((33, 100), *near), (0, 9)),
            (HALF, Rule((33, 100), 0, *near[1:]), (0, 1)),
            (Rule((1, 2), 0), Rule((33, 100), 0, *near[1:]), (1, 9)),
        ):
            with self.subTest(rule=str(rule), other_rule=str(other_rule)):
                self.assertEqual(expected_pair(rule, other_rule), expected)
                self.assertEqual(first_unkind(rule, other_rule), expected)

    def test_the_least_l_comes_ahead_of_the_least_k(self):
        # The pair (0, 3) has a lesser k than the pair (1, 2).
        rule = Rule((1, 2), (1, 2), (8, 5), (5, 2), (17, 5))
        marks, others = [mark(rule, k) for k in range(4)], [mark(HALF, k) for k in range(4)]
        self.assertGreater(marks[0] / marks[3], others[0] / others[3])
        self.assertGreater(marks[1] / marks[2], others[1] / others[2])
        self.assertEqual(first_unkind(rule, HALF), (1, 2))

    def test_the_least_k_for_this_l(self):
        rule = Rule((1, 2), (1, 2), (3, 2), (12, 5))
        marks = [mark(rule, k) for k in range(3)]
        self.assertEqual([marks[k] / marks[2] > Fraction(2 * k + 1, 5) for k in range(2)], [True, True])
        self.assertEqual(first_unkind(rule, HALF), (0, 2))

    def test_long_numbers_take_no_long_time(self):
        start = time.monotonic()
        for rule in MANY_RULES + (Rule((LONG // 3 - 1, LONG), *LONG_RULE.head),):
            with self.subTest(str(rule)):
                self.assertEqual(first_unkind(rule, LONG_RULE), expected_pair(rule, LONG_RULE))
                self.assertEqual(first_unkind(LONG_RULE, rule), expected_pair(LONG_RULE, rule))
        self.assertLess(time.monotonic() - start, 10)

    def test_by_keyword(self):
        self.assertEqual(first_unkind(other_rule=HALF, rule=Rule(1)), (0, 1))
        self.assertIsNone(first_unkind(other_rule=Rule(1), rule=HALF))


if __name__ == "__main__":
    unittest.main()
