"""wholeshares.reports: division_table and mark_line."""

import random
import unittest
from fractions import Fraction

from tests import drawn
from tests.model import LONG_CLAIMS, LONG_RULE, MANY_RULES, mark, number
from tests.samples import LONG, NO_COUNTS, refusal
from tests.test_division_errors import NOT_POSITIVE
from tests.wrong_values import HALF, NO_RULES
from wholeshares.divisions import fair_division
from wholeshares.errors import InvalidClaims, InvalidCount, NotARule, TooManyItems
from wholeshares.reports import division_table, mark_line
from wholeshares.rules import Rule
from wholeshares.samples import sample_rule

MOST = 10 ** 18


def expected_table(rule, claims, items):
    c = [number(claim) for claim in claims]
    lines = []
    for count, one in zip(fair_division(rule, claims, items), c):
        hundredths = str(int(one * items / sum(c) * 100)).rjust(3, "0")
        lines.append(f"{count} {hundredths[:-2]}.{hundredths[-2:]}")
    return "\n".join(lines)


class TableTest(unittest.TestCase):
    def test_drawn_divisions(self):
        chance = random.Random(71)
        for _ in range(400):
            rule, claims, items = drawn.rule(chance), drawn.claims(chance, chance.randint(1, 6)), drawn.items(chance)
            with self.subTest(rule=str(rule), claims=claims, items=items):
                self.assertEqual(division_table(rule, claims, items), expected_table(rule, claims, items))

    def test_worked_out_by_hand(self):
        for rule, claims, items, expected in (
            (Rule(1), (53, 24, 23), 7, "4 3.71\n2 1.68\n1 1.61"),
            (HALF, (1, 1, 1), 1, "1 0.33\n0 0.33\n0 0.33"),
            (HALF, (2, 1), 2, "1 1.33\n1 0.66"),
            (HALF, (1, 99), 1, "0 0.01\n1 0.99"),
            (HALF, (1, 199), 1, "0 0.00\n1 0.99"),
            (HALF, (1, 19), 2, "0 0.10\n2 1.90"),
            (HALF, (1,), 0, "0 0.00"),
            (HALF, ((7, 3),), 12, "12 12.00"),
            (Rule(0), (1, 10 ** 40), 2, "1 0.00\n1 1.99"),
            (HALF, (1, 1), MOST, f"{MOST // 2} {MOST // 2}.00\n{MOST // 2} {MOST // 2}.00"),
            (HALF, (1, 2), MOST, "333333333333333333 333333333333333333.33\n666666666666666667 666666666666666666.66"),
            (HALF, ((1, 2), (1, 3), (1, 6)), 6, "3 3.00\n2 2.00\n1 1.00"),
        ):
            with self.subTest(claims=claims, items=items):
                self.assertEqual(division_table(rule, claims, items), expected)
                self.assertEqual(division_table(items=items, claims=claims, rule=rule), expected)

    def test_long_claims(self):
        for items in (0, 1, 99, MOST):
            self.assertEqual(division_table(LONG_RULE, LONG_CLAIMS, items), expected_table(LONG_RULE, LONG_CLAIMS, items))

    def test_errors_in_their_order(self):
        for value in NO_RULES:
            with self.subTest(type(value)), refusal(self, NotARule, value):
                division_table(value, None, None)
        for value in NOT_POSITIVE:
            with self.subTest(type(value)), refusal(self, InvalidClaims, 1):
                division_table(HALF, (1, value), -1)
        for value in (None, (), [1], (1,) * 7):
            with refusal(self, InvalidClaims, None):
                division_table(HALF, value, MOST + 1)
        for value in NO_COUNTS:
            with self.subTest(type(value)), refusal(self, InvalidCount, value):
                division_table(HALF, (1, 1), value)
        for items in (MOST + 1, LONG):
            with self.assertRaises(TooManyItems) as caught:
                division_table(HALF, (1, 1), items)
            self.assertEqual(caught.exception.limit, MOST)


class MarkLineTest(unittest.TestCase):
    def test_every_rule(self):
        for rule in MANY_RULES + (LONG_RULE,):
            for count in (0, 1, 2, 7, 8, 9, 10, 40, 1000):
                with self.subTest(rule=str(rule), count=count):
                    expected = " ".join(str(mark(rule, k)) for k in range(count))
                    self.assertEqual(mark_line(rule, count), expected)
                    self.assertEqual(mark_line(count=count, rule=rule), expected)

    def test_worked_out_by_hand(self):
        self.assertEqual(mark_line(sample_rule(), 3), "7/10 3/2 5/2")
        self.assertEqual(mark_line(sample_rule(), 0), "")
        self.assertEqual(mark_line(Rule(0), 4), "0 1 2 3")
        self.assertEqual(mark_line(Rule((1, 3), 0, (2, 6)), 4), "0 1/3 7/3 10/3")
        self.assertEqual(mark_line(Rule(1), 1000).split(" ")[-1], "1000")

    def test_it_is_written_as_in_the_text_of_a_rule(self):
        for rule in MANY_RULES:
            head = len(rule.head)
            line = mark_line(rule, head)
            self.assertEqual(f"{line} | {Fraction(*rule.offset)}" if head else f"| {Fraction(*rule.offset)}", str(rule))

    def test_errors_in_their_order(self):
        for value in NO_RULES:
            for count in (2, None, 1001):
                with self.subTest(type(value)), refusal(self, NotARule, value):
                    mark_line(value, count)
        for value in NO_COUNTS + (1001, 1002, MOST, LONG):
            with self.subTest(type(value)), refusal(self, InvalidCount, value):
                mark_line(HALF, value)


if __name__ == "__main__":
    unittest.main()
