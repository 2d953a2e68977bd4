"""wholeshares.comparing: the errors, and what is accepted at the limits."""

import unittest

from tests.samples import LONG, NO_COUNTS, refusal
from wholeshares.comparing import first_difference, first_unkind, most_apart, same_divisions
from wholeshares.errors import InvalidCount, NotARule, TooManyItems
from wholeshares.rules import Rule

HALF = Rule((1, 2))
NO_RULES = NO_COUNTS + (0, 1, "| 1", "| 1/2", (Rule(1),), [Rule(1)], Rule, LONG)
OF_TWO_RULES = (first_difference, same_divisions, first_unkind)


class RulesTest(unittest.TestCase):
    def test_first_rule(self):
        for value in NO_RULES:
            for function in OF_TWO_RULES:
                for other in (HALF, None, "| 1"):
                    with self.subTest(function=function.__name__, value_class=type(value)):
                        with refusal(self, NotARule, value):
                            function(value, other)
                        with refusal(self, NotARule, value):
                            function(other_rule=other, rule=value)
            for other, items in ((HALF, 2), (HALF, -1), (HALF, 201), (None, None)):
                with self.subTest(value_class=type(value), items=items), refusal(self, NotARule, value):
                    most_apart(value, other, items)

    def test_other_rule(self):
        for value in NO_RULES:
            for function in OF_TWO_RULES:
                with self.subTest(function=function.__name__, value_class=type(value)):
                    with refusal(self, NotARule, value):
                        function(HALF, value)
                    with refusal(self, NotARule, value):
                        function(other_rule=value, rule=HALF)
            for items in (0, 1, 2, 200, 201, -1, None):
                with self.subTest(value_class=type(value), items=items), refusal(self, NotARule, value):
                    most_apart(HALF, value, items)


class ItemsTest(unittest.TestCase):
    def test_what_is_no_count(self):
        for value in NO_COUNTS:
            for other in (HALF, Rule(1)):
                with self.subTest(type(value)):
                    with refusal(self, InvalidCount, value):
                        most_apart(HALF, other, value)
                    with refusal(self, InvalidCount, value):
                        most_apart(items=value, other_rule=other, rule=HALF)

    def test_more_items_than_the_limit(self):
        for items in (201, 202, 1000, 10 ** 18, LONG):
            for other in (HALF, Rule(1)):
                with self.subTest(items), self.assertRaises(TooManyItems) as caught:
                    most_apart(HALF, other, items)
                self.assertEqual((type(caught.exception.limit), caught.exception.limit), (int, 200))

    def test_0_and_200_items_are_accepted(self):
        self.assertEqual([most_apart(HALF, Rule(1), items) for items in (0, 1, 2, 200)], [0, 0, 1, 1])


class ArgumentsTest(unittest.TestCase):
    def test_rules_stay_as_they_are(self):
        rule, other_rule = Rule((2, 4), (14, 20)), Rule(1, (1, 2), 1, (5, 2))
        texts = (str(rule), str(other_rule))
        for function in OF_TWO_RULES:
            function(rule, other_rule)
        most_apart(rule, other_rule, 30)
        self.assertEqual((str(rule), str(other_rule)), texts)


if __name__ == "__main__":
    unittest.main()
