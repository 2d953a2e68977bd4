"""wholeshares.rules: the marks of rules, and which rules are equal."""

import unittest
from fractions import Fraction

from tests.samples import LONG, NO_COUNTS, RULES, EqualToAll, Plain, refusal
from wholeshares.errors import InvalidCount
from wholeshares.rules import Rule

FAR = (7, 8, 9, 10, 99, 1000, 10 ** 18, LONG)


def marks_of(offset, head):
    """Return marks enough to tell rules apart, as the document defines them."""
    behind = [k + Fraction(*offset) for k in range(len(head), 8)]
    return [Fraction(*mark) for mark in head] + behind + [8 + Fraction(*offset)]


class MarkTest(unittest.TestCase):
    def test_marks_inside_the_head_at_its_end_behind_it_and_far_away(self):
        for arguments, offset, head, text in RULES:
            rule = Rule(*arguments)
            for number in tuple(range(len(head) + 2)) + FAR:
                if number < len(head):
                    expected = Fraction(*head[number])
                else:
                    expected = number + Fraction(*offset)
                with self.subTest(text=text, number=number):
                    mark = rule.mark(number)
                    self.assertEqual(mark, (expected.numerator, expected.denominator))
                    self.assertEqual(rule.mark(number=number), mark)
                    self.assertEqual([type(mark), type(mark[0]), type(mark[1])], [tuple, int, int])

    def test_what_is_no_count(self):
        for rule in (Rule(1), Rule((1, 2), 0, 1)):
            for value in NO_COUNTS:
                with self.subTest(type(value)):
                    with refusal(self, InvalidCount, value):
                        rule.mark(value)
                    with refusal(self, InvalidCount, value):
                        rule.mark(number=value)

    def test_marks_ascend(self):
        for arguments, _, _, text in RULES:
            marks = [Fraction(*Rule(*arguments).mark(number)) for number in range(12)]
            with self.subTest(text):
                self.assertEqual(marks, sorted(set(marks)))
                self.assertGreaterEqual(marks[0], 0)

    def test_the_example_of_the_interface(self):
        rule = Rule((1, 2), (14, 20))
        self.assertEqual(
            [rule.mark(0), rule.mark(1), rule.mark(1000), rule.head, str(rule), Rule.read("7/10 | 1/2") == rule,
             repr(Rule(1)), Rule((1, 2), (1, 2)) == Rule((1, 2))],
            [(7, 10), (3, 2), (2001, 2), ((7, 10),), "7/10 | 1/2", True, "Rule(| 1)", True])


class EqualityTest(unittest.TestCase):
    def assert_equal_is(self, one, other, expected):
        self.assertIs(one == other, expected)
        self.assertIs(one != other, not expected)

    def test_rules_are_equal_exactly_if_all_marks_are(self):
        # Heads that repeat, and heads that leave, the marks that the offset gives.
        longer = [(offset, *[(k * q + p, q) for k in range(length)])
                  for p, q in ((0, 1), (1, 2), (1, 1)) for offset in [(p, q)] for length in range(9)]
        others = [((1, 2), (7, 10)), ((1, 2), (7, 10), (3, 2)), ((1, 2), (7, 10), (8, 5)), ((1, 2), 0), ((1, 2), 1),
                  (0, 0, (1, 2)), (1, 1, 2, 3, 4, 5, 6, 7, (15, 2)), (0, 0, 1, 2, 3, 4, 5, 6, (13, 2))]
        rules = [Rule(*arguments) for arguments in longer + others + [row[0] for row in RULES]]
        for one in rules:
            for other in rules:
                expected = marks_of(one.offset, one.head) == marks_of(other.offset, other.head)
                with self.subTest(one=str(one), other=str(other)):
                    self.assert_equal_is(one, other, expected)

    def test_a_longer_head_with_the_same_marks(self):
        self.assert_equal_is(Rule((1, 2)), Rule((2, 4), (1, 2), (6, 4)), True)
        self.assert_equal_is(Rule((1, 2), (7, 10)), Rule((1, 2), (7, 10), (3, 2)), True)
        self.assert_equal_is(Rule(1), Rule(1, *range(1, 9)), True)

    def test_rules_with_equal_heads_and_different_offsets(self):
        self.assert_equal_is(Rule(1, *range(8)), Rule(0, *range(8)), False)
        self.assert_equal_is(Rule(0), Rule(1), False)
        self.assert_equal_is(Rule((1, 2)), Rule((LONG, 2 * LONG + 1)), False)

    def test_rules_that_differ_in_one_mark_of_the_head(self):
        self.assert_equal_is(Rule((1, 2), (1, 2)), Rule((1, 2), (1, 3)), False)
        self.assert_equal_is(Rule((1, 2), 0, 1), Rule((1, 2), 0), False)
        self.assert_equal_is(Rule(1, *range(8)), Rule(1, *range(7)), False)

    def test_a_rule_differs_from_its_text_and_every_other_value(self):
        for rule in (Rule(1), Rule((1, 2), (7, 10)), Rule(0, 0)):
            same = (str(rule), repr(rule), rule.offset, rule.head, (rule.offset,) + rule.head, [rule], (rule,))
            for value in same + NO_COUNTS + (0, 1, Plain(), EqualToAll(), Rule):
                with self.subTest(type(value)):
                    self.assert_equal_is(rule, value, False)


if __name__ == "__main__":
    unittest.main()
