"""wholeshares.parts: the errors, and what is accepted at the limits."""

import unittest

from tests.samples import LONG, NO_COUNTS, refusal
from tests.wrong_values import HALF, NO_RULES, no_claimants
from wholeshares.errors import InvalidClaimants, InvalidCount, NotARule, TooManyItems
from wholeshares.parts import least_possible, least_sure, widest

MOST = 10 ** 18
BY_COUNT = (least_possible, least_sure)


class ErrorsTest(unittest.TestCase):
    def test_rules(self):
        for value in NO_RULES:
            for function in BY_COUNT:
                for rest in ((2, 3, 1), (1, -1, -1), (13, MOST + 1, None), (None, None, None)):
                    with self.subTest(function=function.__name__, value_class=type(value)):
                        with refusal(self, NotARule, value):
                            function(value, *rest)
            for rest in ((2, 3), (1, -1), (13, MOST + 1), (None, None)):
                with self.subTest(function="widest", value_class=type(value)), refusal(self, NotARule, value):
                    widest(value, *rest)

    def test_claimants(self):
        for value in no_claimants(12):
            for function in BY_COUNT:
                for rest in ((3, 1), (-1, -1), (MOST + 1, None), (None, None)):
                    with self.subTest(function=function.__name__, value_class=type(value)):
                        with refusal(self, InvalidClaimants, value):
                            function(HALF, value, *rest)
            for items in (3, -1, MOST + 1, None):
                with self.subTest(function="widest", value_class=type(value)):
                    with refusal(self, InvalidClaimants, value):
                        widest(HALF, value, items)

    def test_items_before_the_count(self):
        for value in NO_COUNTS:
            for function in BY_COUNT:
                for count in (0, 1, -1, None, LONG):
                    with self.subTest(function=function.__name__, value_class=type(value)):
                        with refusal(self, InvalidCount, value):
                            function(HALF, 2, value, count)
                        with refusal(self, InvalidCount, value):
                            function(count=count, items=value, claimants=12, rule=HALF)
            with self.subTest(function="widest", value_class=type(value)), refusal(self, InvalidCount, value):
                widest(HALF, 2, value)

    def test_count_before_too_many_items(self):
        for value in NO_COUNTS:
            for function in BY_COUNT:
                for items in (0, 3, MOST, MOST + 1, LONG):
                    with self.subTest(function=function.__name__, value_class=type(value), items=items):
                        with refusal(self, InvalidCount, value):
                            function(HALF, 2, items, value)

    def test_too_many_items(self):
        for items in (MOST + 1, 2 * MOST, LONG, 10 ** 60 - 1):
            for claimants in (2, 12):
                for function, rest in ((widest, ()), (least_possible, (0,)), (least_sure, (0,)),
                                       (least_possible, (items,)), (least_sure, (items + 1,))):
                    with self.subTest(function=function.__name__, items=items):
                        with self.assertRaises(TooManyItems) as caught:
                            function(HALF, claimants, items, *rest)
                        self.assertEqual((type(caught.exception.limit), caught.exception.limit), (int, MOST))

    def test_accepted_at_the_limits(self):
        for claimants in (2, 12):
            self.assertTrue(least_possible(HALF, claimants, MOST, 1)[1])
            self.assertTrue(least_possible(HALF, claimants, MOST, MOST)[1])
            self.assertIsNone(least_possible(HALF, claimants, MOST, LONG))
            self.assertFalse(least_sure(HALF, claimants, MOST, 1)[1])
            self.assertIsNone(least_sure(HALF, claimants, MOST, MOST + 1))
            self.assertEqual(len(widest(HALF, claimants, MOST)), 2)


if __name__ == "__main__":
    unittest.main()
