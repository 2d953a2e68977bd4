"""wholeshares.rules: which rules there are, and what offset and head they have."""

import unittest

from tests.samples import NO_NUMBERS, RULES, refusal
from wholeshares.errors import InvalidHead, InvalidOffset
from wholeshares.rules import Rule

HALF = (1, 2)


class AcceptedTest(unittest.TestCase):
    def test_offset_and_head_are_pairs_in_lowest_terms(self):
        for arguments, offset, head, text in RULES:
            with self.subTest(text):
                rule = Rule(*arguments)
                self.assertEqual((rule.offset, rule.head), (offset, head))
                self.assertIs(type(rule.head), tuple)
                for pair in (rule.offset,) + rule.head:
                    self.assertEqual([type(pair), type(pair[0]), type(pair[1])], [tuple, int, int])

    def test_offset_by_keyword(self):
        rule = Rule(offset=(2, 4))
        self.assertEqual((rule.offset, rule.head), ((1, 2), ()))

    def test_every_rule_is_true(self):
        for arguments, _, _, text in RULES:
            with self.subTest(text):
                self.assertTrue(Rule(*arguments))

    def test_largest_last_elements(self):
        # The last element of a head of length n is less than n + offset; just below is accepted.
        for offset in (0, 1, HALF, (999, 1000)):
            top, bottom = (offset, 1) if isinstance(offset, int) else offset
            for length in range(1, 9):
                head = tuple((k, 10 ** 6) for k in range(length - 1))
                border = (top + length * bottom) * 10 ** 20
                below = (border - 1, bottom * 10 ** 20)
                with self.subTest(offset=offset, length=length):
                    self.assertEqual(len(Rule(offset, *head, below).head), length)
                    for last in ((border, bottom * 10 ** 20), (border + 1, bottom * 10 ** 20), length + 2, 10 ** 59):
                        with refusal(self, InvalidHead, length - 1):
                            Rule(offset, *head, last)


class RefusedOffsetTest(unittest.TestCase):
    def test_what_is_no_number(self):
        for value in NO_NUMBERS:
            with self.subTest(type(value)):
                with refusal(self, InvalidOffset, value):
                    Rule(value)
                with refusal(self, InvalidOffset, value):
                    Rule(offset=value)

    def test_what_is_not_from_0_to_1(self):
        for value in (-1, 2, 10 ** 59, (-1, 2), (3, 2), (-1, 10 ** 59), (10 ** 59 + 1, 10 ** 59), (4, 2), (-5, 5)):
            with self.subTest(value), refusal(self, InvalidOffset, value):
                Rule(value)

    def test_offset_comes_ahead_of_head(self):
        for head in ((None,), (2, 1), (5,), tuple(range(9)), (None,) * 9):
            for value in (2, None, True, (1, 0)):
                with self.subTest(head=head, value=value), refusal(self, InvalidOffset, value):
                    Rule(value, *head)


class RefusedHeadTest(unittest.TestCase):
    def test_more_than_8_elements_before_any_is_looked_at(self):
        for head in (tuple(range(9)), (None,) * 9, (5, 4) * 5, EIGHT_AND_LARGE, (0,) * 100):
            with self.subTest(len(head)), refusal(self, InvalidHead, None):
                Rule(1, *head)

    def test_8_elements_are_not_too_many(self):
        self.assertEqual(len(Rule(1, *range(8)).head), 8)

    def test_first_element_that_is_no_number(self):
        for value in NO_NUMBERS:
            for place in range(8):
                head = [(k, 100) for k in range(8)]
                head[place:] = [value] * (8 - place)
                with self.subTest(value_class=type(value), place=place), refusal(self, InvalidHead, place):
                    Rule(HALF, *head)

    def test_element_less_than_0(self):
        for value in (-1, (-1, 2), (-1, 10 ** 59), -10 ** 59):
            with self.subTest(value), refusal(self, InvalidHead, 0):
                Rule(HALF, value)
            with self.subTest(value), refusal(self, InvalidHead, 1):
                Rule(HALF, 0, value)

    def test_element_that_is_not_greater_than_the_one_before(self):
        for first, second in ((0, 0), (1, 1), (1, (1, 1)), ((1, 2), (2, 4)), ((1, 2), (1, 3)), ((2, 3), (3, 5)),
                              (1, (99, 100)), ((10 ** 59 + 1, 10 ** 59), 1), (1, 0)):
            with self.subTest((first, second)):
                with refusal(self, InvalidHead, 1):
                    Rule(1, first, second)
                with refusal(self, InvalidHead, 1):
                    Rule(1, first, second, None)
                with refusal(self, InvalidHead, 2):
                    Rule(1, (0, 3), first if first != 0 else (1, 9), (0, 3))

    def test_first_of_several_faults(self):
        for head, index in (((1, 1, None), 1), ((None, -1), 0), ((1, None, 0), 1), ((1, 2, 2, True), 2),
                            ((-1, -1), 0), ((9, 8), 1), ((9, 9, 9), 1), ((9, None), 1), ((0, 9, "x"), 2)):
            with self.subTest(head), refusal(self, InvalidHead, index):
                Rule(1, *head)

    def test_size_of_the_last_element_comes_finally(self):
        for arguments, index in (((0, 1), 0), ((1, 2), 0), ((0, 2), 0), ((HALF, (3, 2)), 0), ((0, 0, 2), 1),
                                 ((0, 5, 6), 1), ((1, 0, 3), 1), ((HALF, 2, (5, 2)), 1),
                                 ((1, 0, 1, 2, 3, 4, 5, 6, 9), 7), ((0, 0, 1, 2, 3, 4, 5, 6, 8), 7)):
            with self.subTest(arguments), refusal(self, InvalidHead, index):
                Rule(*arguments)

    def test_only_the_last_element_has_a_greatest_size(self):
        # Each mark of the head may be greater than k + offset, as long as the next ones are behind it.
        self.assertEqual(Rule(0, (3, 2), (7, 4)).head, ((3, 2), (7, 4)))
        self.assertEqual(Rule(1, 2, (5, 2)).head, ((2, 1), (5, 2)))


EIGHT_AND_LARGE = tuple(range(8)) + (100,)


if __name__ == "__main__":
    unittest.main()
