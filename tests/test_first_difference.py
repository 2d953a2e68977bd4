"""wholeshares.comparing: first_difference and same_divisions."""

import itertools
import time
import unittest
from fractions import Fraction

from tests.model import (
    FEW_RULES, LONG_RULE, MANY_RULES, all_fair, claims_with, fair, marks_of, number, telling_ratios,
)
from tests.samples import LONG
from wholeshares.comparing import first_difference, same_divisions
from wholeshares.divisions import fair_divisions, is_fair
from wholeshares.rules import Rule

HALF = Rule((1, 2))


def differ(rule, other_rule, items):
    """Return True if two claimants have claims with different fair divisions of these items."""
    return any(
        all_fair(rule, claims_with(ratio), items) != all_fair(other_rule, claims_with(ratio), items)
        for ratio in telling_ratios((rule, other_rule), items)
    )


def differs_at(rule, other_rule, items):
    """Return the same by the limits of the ratio c[0] / c[1] in point 8."""
    marks, others = marks_of(rule, items), marks_of(other_rule, items)
    if items == 1:
        return (marks[0] == 0) != (others[0] == 0)
    return any(marks[k] * others[-1 - k] != others[k] * marks[-1 - k] for k in range(items))


class SameTest(unittest.TestCase):
    def assert_same(self, rule, other_rule):
        for one, other in ((rule, other_rule), (other_rule, rule)):
            self.assertIsNone(first_difference(one, other))
            self.assertIs(same_divisions(one, other), True)

    def test_a_rule_and_itself(self):
        for rule in MANY_RULES + (LONG_RULE,):
            with self.subTest(str(rule)):
                self.assert_same(rule, rule)
                self.assert_same(rule, Rule(rule.offset, *rule.head))

    def test_equal_marks_in_heads_of_different_lengths(self):
        for offset in (0, 1, (1, 2), (LONG, LONG + 1)):
            top, bottom = (offset, 1) if isinstance(offset, int) else offset
            head = [(top + k * bottom, bottom) for k in range(8)]
            for length, other_length in itertools.combinations(range(9), 2):
                with self.subTest(offset=offset, lengths=(length, other_length)):
                    self.assert_same(Rule(offset, *head[:length]), Rule(offset, *head[:other_length]))
                    if length:
                        # The first mark is another one in both, and the head is longer in one of them.
                        tail, other_tail = head[1:length], head[1:other_length]
                        first = (top, 2 * bottom) if top else (1, 2)
                        self.assert_same(Rule(offset, first, *tail), Rule(offset, first, *other_tail))

    def test_every_two_rules(self):
        for rule, other_rule in itertools.product(MANY_RULES + FEW_RULES, repeat=2):
            same = marks_of(rule, 10) == marks_of(other_rule, 10)
            with self.subTest(rule=str(rule), other_rule=str(other_rule)):
                self.assertIs(same_divisions(rule, other_rule), same)
                self.assertIs(first_difference(rule, other_rule) is None, same)


class DifferentTest(unittest.TestCase):
    def check(self, rule, other_rule, least=None):
        """Check all that is said of a difference, and return its number of items."""
        found = first_difference(rule, other_rule)
        self.assertIs(type(found), tuple)
        items, claims, division = found
        self.assertIs(same_divisions(rule, other_rule), False)
        self.assertEqual([type(part) for part in found], [int, tuple, tuple])
        for claim in claims:
            ratio = number(claim)
            self.assertGreater(ratio, 0)
            self.assertEqual((type(claim), claim), (tuple, (ratio.numerator, ratio.denominator)))
        self.assertEqual((len(claims), len(division), sum(division)), (2, 2, items))
        self.assertEqual([type(count) for count in division], [int, int])
        self.assertNotEqual(fair(rule, claims, division), fair(other_rule, claims, division))
        self.assertNotEqual(is_fair(rule, claims, division), is_fair(other_rule, claims, division))
        self.assertTrue(differs_at(rule, other_rule, items))
        self.assertFalse(any(differs_at(rule, other_rule, fewer) for fewer in range(1, items)))
        if least is not None:
            self.assertEqual(items, least)
        return items

    def test_every_two_rules(self):
        seen = set()
        for rule, other_rule in itertools.product(MANY_RULES + FEW_RULES, repeat=2):
            if marks_of(rule, 10) != marks_of(other_rule, 10):
                with self.subTest(rule=str(rule), other_rule=str(other_rule)):
                    seen.add(self.check(rule, other_rule))
        self.assertGreaterEqual(seen, {1, 2, 3, 4, 10})

    def test_all_claims_of_two_claimants_below_the_least_number(self):
        for rule, other_rule in itertools.combinations(FEW_RULES, 2):
            found = first_difference(rule, other_rule)
            with self.subTest(rule=str(rule), other_rule=str(other_rule)):
                for fewer in range(12 if found is None else found[0]):
                    self.assertFalse(differ(rule, other_rule, fewer))
                if found is not None:
                    self.assertTrue(differ(rule, other_rule, found[0]))

    def test_more_claimants_below_the_least_number(self):
        claims = ((1, 1, 1), (5, 3, 1), ((7, 10), (3, 2), 1), (3, 2, 2, 1), (1, (1, 2), (7, 10), (3, 2), (5, 2)),
                  (1, 1, 1, 1, 1, 1), (30, 17, 13, 5, 2, 1))
        for rule, other_rule in itertools.product(MANY_RULES + FEW_RULES, repeat=2):
            found = first_difference(rule, other_rule)
            for fewer in range(10 if found is None else found[0]):
                for some in claims:
                    with self.subTest(rule=str(rule), other_rule=str(other_rule), items=fewer, claims=some):
                        one, other = fair_divisions(rule, some, fewer), fair_divisions(other_rule, some, fewer)
                        self.assertEqual(one, other)

    def test_one_first_mark_of_0(self):
        for rule, other_rule in ((Rule(0), Rule(1)), (Rule(0), HALF), (HALF, Rule((1, 2), 0)), (Rule(1, 0), Rule(1)),
                                 (Rule(0), Rule(0, (1, 10 ** 59))), (Rule(0), Rule((1, 10 ** 59)))):
            with self.subTest(rule=str(rule), other_rule=str(other_rule)):
                self.check(rule, other_rule, 1)
                self.check(other_rule, rule, 1)

    def test_both_first_marks_0(self):
        # All first items are due at once by both rules; so up to three items are divided alike.
        for rule, other_rule, least in ((Rule(0), Rule(1, 0), 4), (Rule(0), Rule(0, 0, (1, 2)), 4),
                                        (Rule((1, 2), 0), Rule((1, 2), 0, 1), 4), (Rule(1, 0), Rule((1, 2), 0), 4)):
            with self.subTest(rule=str(rule), other_rule=str(other_rule)):
                self.check(rule, other_rule, least)
                self.check(other_rule, rule, least)

    def test_each_mark_alone(self):
        # The ratio of this mark to the first one is the earliest one that differs; that of the first one to the next.
        for offset in ((1, 2), (1, 3), 1):
            top, bottom = (offset, 1) if isinstance(offset, int) else offset
            head = [(top + k * bottom, bottom) for k in range(8)]
            for k in range(8):
                for shift in (Fraction(1, 10 ** 40), -Fraction(1, 3 * bottom)):
                    changed = number(head[k]) + shift
                    mark = (changed.numerator, changed.denominator)
                    if changed > 0:
                        rule = Rule(offset, *head[:k], mark, *head[k + 1:])
                        short = Rule(offset, *head[:k], mark)
                        with self.subTest(str(rule)):
                            self.check(Rule(offset), rule, 2 if k == 0 else k + 1)
                            self.check(short, Rule(offset, *head), 2 if k == 0 else k + 1)
                            self.assertIsNone(first_difference(rule, short))

    def test_equal_heads_with_different_offsets(self):
        for head in ((), (0,), ((1, 2),), (0, 1), ((1, 2), (3, 2), (5, 2)), tuple(range(8)),
                     tuple((2 * k + 1, 2) for k in range(8))):
            for offset, other_offset in itertools.permutations((0, (1, 10 ** 59), (1, 2), (LONG, LONG + 1), 1), 2):
                if not head or number(head[-1]) < len(head) + min(number(offset), number(other_offset)):
                    rule, other_rule = Rule(offset, *head), Rule(other_offset, *head)
                    with self.subTest(rule=str(rule), other_rule=str(other_rule)):
                        self.check(rule, other_rule)
                        if len(head) == 8:
                            self.check(rule, other_rule, 9 if head[0] else 10)

    def test_the_largest_least_number_of_items(self):
        # The marks are in the same proportion as those of the other rule up to the mark 7, or even the mark 8.
        near = [(49 * (2 * k + 1), 100) for k in range(8)]
        pairs = (
            (Rule(1, *[(8 * (k + 1), 9) for k in range(8)]), Rule(1), 9),
            (Rule(0, 0, *[(9 * k, 10) for k in range(1, 8)]), Rule(0, *range(8)), 10),
            (Rule((33, 100), *near), HALF, 10),
            (Rule((33, 100), 0, *near[1:]), Rule((1, 2), 0), 11),
        )
        for rule, other_rule, least in pairs:
            with self.subTest(rule=str(rule), other_rule=str(other_rule)):
                self.check(rule, other_rule, least)
                self.check(other_rule, rule, least)

    def test_long_numbers_take_no_long_time(self):
        start = time.monotonic()
        others = [Rule((LONG // 3, LONG), *LONG_RULE.head[:k], (k * LONG + 3 * k + 1, LONG + 10 * k + 3))
                  for k in range(8)]
        for other_rule in others + [Rule((LONG // 3 + 1, LONG), *LONG_RULE.head)]:
            with self.subTest(str(other_rule)):
                if marks_of(other_rule, 10) == marks_of(LONG_RULE, 10):
                    self.assertIsNone(first_difference(LONG_RULE, other_rule))
                else:
                    self.check(LONG_RULE, other_rule)
                    self.check(other_rule, LONG_RULE)
        self.assertLess(time.monotonic() - start, 10)


class CallsTest(unittest.TestCase):
    def test_equal_calls_return_the_same(self):
        for one, same in ((HALF, Rule((2, 4), (1, 2), (3, 2))), (Rule(1), Rule((2, 2), 1))):
            for other_rule in MANY_RULES:
                with self.subTest(one=str(one), other_rule=str(other_rule)):
                    self.assertEqual(first_difference(one, other_rule), first_difference(same, other_rule))
                    self.assertEqual(first_difference(other_rule, one), first_difference(other_rule, same))

    def test_by_keyword(self):
        sample = Rule((1, 2), (7, 10))
        self.assertEqual(first_difference(other_rule=sample, rule=HALF), first_difference(HALF, sample))
        self.assertIs(same_divisions(other_rule=sample, rule=HALF), False)
        self.assertIs(same_divisions(other_rule=Rule((2, 4)), rule=HALF), True)


if __name__ == "__main__":
    unittest.main()
