"""wholeshares.divisions: the errors, and what is accepted at the limits."""

import unittest

from tests.samples import LONG, NO_COUNTS, NO_NUMBERS, EqualToAll, Plain, Unequal, refusal
from wholeshares.divisions import fair_division, fair_divisions, is_fair, next_claimants
from wholeshares.errors import InvalidClaims, InvalidCount, InvalidDivision, NotARule, NotFair, TooManyItems
from wholeshares.rules import Rule

HALF = Rule((1, 2))
MOST = 10 ** 18
NO_RULES = NO_COUNTS + (0, 1, "| 1", "| 1/2", (Rule(1),), [Rule(1)], Rule, 10 ** 18, LONG)
NOT_POSITIVE = NO_NUMBERS + (0, -1, (0, 1), (0, 7), (-1, 2), -10 ** 59)
BY_DIVISION = (is_fair, next_claimants)
BY_ITEMS = (fair_divisions, fair_division)


def tuples_out_of(values, length):
    """Return the values that are no tuples of this length."""
    return [value for value in values if not isinstance(value, tuple) or len(value) != length]


class RuleTest(unittest.TestCase):
    def test_what_is_no_rule(self):
        for value in NO_RULES:
            for function in BY_DIVISION + BY_ITEMS:
                for rest in (((1, 1), (1, 1)), ((1, 1), 2), (None, None), ((), -1), ((1, 1), MOST + 1)):
                    with self.subTest(function=function.__name__, value_class=type(value)):
                        with refusal(self, NotARule, value):
                            function(value, *rest)
        with refusal(self, NotARule, None):
            is_fair(division=None, claims=None, rule=None)
        with refusal(self, NotARule, None):
            fair_divisions(items=None, claims=None, rule=None)


class ClaimsTest(unittest.TestCase):
    def refused(self, claims, index):
        for function in BY_DIVISION + BY_ITEMS:
            for last in ((1, 1), 2, None, (), -1, MOST + 1, (9, 0)):
                with self.subTest(function=function.__name__, claims_class=type(claims), index=index):
                    with refusal(self, InvalidClaims, index):
                        function(HALF, claims, last)

    def test_what_is_no_tuple(self):
        for value in NO_NUMBERS + (0, 1, -1, LONG, HALF, [1, 1], {1: 1}, "11", range(1, 3)):
            if not isinstance(value, tuple):
                self.refused(value, None)

    def test_wrong_lengths_before_any_element_is_looked_at(self):
        for claims in ((), (1,) * 7, (None,) * 7, (0,) * 100, tuple(range(-3, 4))):
            self.refused(claims, None)

    def test_first_element_that_is_no_positive_number(self):
        for value in NOT_POSITIVE:
            for length in (1, 2, 6):
                for place in {0, length // 2, length - 1}:
                    self.refused((1,) * place + (value,) * (length - place), place)

    def test_first_of_several_faults(self):
        for claims, index in (((0, 0), 0), ((1, None, 0), 1), (((1, 2), (1, 0), (2, 1), True), 1), ((-1, "x"), 0),
                              ((5, 4, 3, 2, 1, 0), 5), ((LONG, (1, LONG), (1, -LONG)), 2)):
            self.refused(claims, index)


class DivisionTest(unittest.TestCase):
    def refused(self, claims, division, index):
        for function in BY_DIVISION:
            with self.subTest(function=function.__name__, claims=claims, division_class=type(division), index=index):
                with refusal(self, InvalidDivision, index):
                    function(HALF, claims, division)
                with refusal(self, InvalidDivision, index):
                    function(HALF, division=division, claims=claims)

    def test_what_is_no_tuple_of_as_many_elements(self):
        more = (0, 1, [1, 1], "11", {0: 1, 1: 1}, HALF, (), (1,), (1, 1, 1), (None,) * 3, (0,) * 7)
        for length in (1, 2, 3, 6):
            for division in tuples_out_of(NO_NUMBERS + more, length):
                self.refused((1,) * length, division, None)

    def test_first_element_that_is_no_count(self):
        for value in NO_COUNTS:
            for length in (1, 2, 6):
                for place in {0, length // 2, length - 1}:
                    self.refused((1,) * length, (0,) * place + (value,) * (length - place), place)

    def test_first_of_several_faults(self):
        for division, index in (((-1, -1, -1), 0), ((0, None, -1), 1), ((9, 0, True), 2), ((9, (1, 1), 0), 1)):
            self.refused((1, 1, 1), division, index)


class ItemsTest(unittest.TestCase):
    def test_what_is_no_count(self):
        for value in NO_COUNTS:
            for function in BY_ITEMS:
                with self.subTest(function=function.__name__, value_class=type(value)):
                    with refusal(self, InvalidCount, value):
                        function(HALF, (1, 1), value)
                    with refusal(self, InvalidCount, value):
                        function(items=value, claims=(1, 1), rule=HALF)

    def test_more_items_than_the_limit(self):
        for items in (MOST + 1, 2 * MOST, LONG, 10 ** 60 - 1):
            for function in BY_ITEMS:
                for claims in ((1,), (1, 2), (6, 5, 4, 3, 2, 1)):
                    with self.subTest(function=function.__name__, items=items):
                        with self.assertRaises(TooManyItems) as caught:
                            function(HALF, claims, items)
                        self.assertEqual((type(caught.exception.limit), caught.exception.limit), (int, MOST))

    def test_too_many_items_come_finally(self):
        for function in BY_ITEMS:
            with refusal(self, NotARule, None):
                function(None, (1, 1), MOST + 1)
            with refusal(self, InvalidClaims, 1):
                function(HALF, (1, 0), MOST + 1)


class NotFairTest(unittest.TestCase):
    def test_the_division_is_kept(self):
        for claims, division in (((1, 1), (2, 0)), ((1, 1), (0, 2)), ((53, 24, 23), (4, 2, 1)),
                                 ((1,) * 6, (2,) + (0,) * 5), ((1, LONG), (1, 0)), ((1, 1), (LONG, 0))):
            with self.subTest(claims=claims, division=division):
                with refusal(self, NotFair, division):
                    next_claimants(HALF, claims, division)
                self.assertIs(is_fair(HALF, claims, division), False)

    def test_it_comes_finally(self):
        with refusal(self, NotARule, None):
            next_claimants(None, (1, 1), (2, 0))
        with refusal(self, InvalidClaims, None):
            next_claimants(HALF, [1, 1], (2, 0))
        with refusal(self, InvalidDivision, 2):
            next_claimants(HALF, (1, 1, 1), (2, 0, None))


class AcceptedTest(unittest.TestCase):
    def test_limits(self):
        claims = (LONG, (1, LONG), (LONG, LONG + 1), 1, (7, 7), (6, 4))
        division = fair_division(HALF, claims, MOST)
        self.assertEqual(sum(division), MOST)
        self.assertIn(division, fair_divisions(HALF, claims, MOST))
        self.assertIs(is_fair(HALF, claims, division), True)
        self.assertGreater(len(next_claimants(HALF, claims, division)), 0)
        self.assertEqual(fair_divisions(HALF, (1,), 0), ((0,),))

    def test_foreign_objects_are_not_looked_into(self):
        for value in (Plain(), EqualToAll(), Unequal()):
            with refusal(self, InvalidClaims, 0):
                is_fair(HALF, (value, 1), (0, 0))
            with refusal(self, InvalidDivision, 1):
                is_fair(HALF, (1, 1), (0, value))


if __name__ == "__main__":
    unittest.main()
