"""wholeshares.known: the errors in their order, and what is accepted at the limits."""

import unittest

from tests.samples import LONG, NO_COUNTS, refusal
from tests.wrong_values import HALF, NO_RULES, no_claimant, no_claimants, no_statements
from wholeshares.errors import (
    Inconsistent, InvalidClaimant, InvalidClaimants, InvalidCount, InvalidStatements, NotARule, TooManyItems,
)
from wholeshares.known import (
    consistent, contradiction, count_bounds, part_bounds, possible_divisions, ratio_bounds, some_claims,
)

MOST = 10 ** 18
GOOD = ("ratio", 0, 1, 1, 2)
BAD = ("ratio", 0, 1, 3, 2)
INCONSISTENT = (GOOD, ("ratio", 1, 0, 2, None))

# Each function with arguments behind the statements: right ones, and some that are refused, too.
FUNCTIONS = (
    (consistent, ((),)), (contradiction, ((),)), (some_claims, ((),)),
    (ratio_bounds, ((0, 1), (None, None), (7, 7))),
    (part_bounds, ((0,), (None,), (-1,))),
    (count_bounds, ((HALF, 3, 0), (None, -1, None), (HALF, MOST + 1, 9))),
    (possible_divisions, ((HALF, 3), (None, -1), (HALF, 11))),
)


class OrderTest(unittest.TestCase):
    def test_claimants_first(self):
        for value in no_claimants(6):
            for function, more in FUNCTIONS:
                for rest in more:
                    for statements in ((GOOD,), INCONSISTENT, None, (None,)):
                        with self.subTest(function=function.__name__, value_class=type(value)):
                            with refusal(self, InvalidClaimants, value):
                                function(value, statements, *rest)

    def test_statements_before_the_rest(self):
        for function, more in FUNCTIONS:
            for rest in more:
                for statements, index in ((None, None), ([GOOD], None), ((GOOD,) * 13, None), ((None,) * 13, None),
                                          ((None,), 0), ((GOOD, None), 1), ((BAD, GOOD, 7, None), 2),
                                          ((GOOD,) * 11 + ((),), 11), ("ratio", None), (GOOD, 0)):
                    with self.subTest(function=function.__name__, statements=statements):
                        with refusal(self, InvalidStatements, index):
                            function(2, statements, *rest)

    def test_every_function_refuses_what_is_no_statement(self):
        for function, more in FUNCTIONS:
            for value in no_statements(3):
                with self.subTest(function=function.__name__, value_class=type(value)):
                    with refusal(self, InvalidStatements, 1):
                        function(3, (BAD, value), *more[0])

    def test_claimants_i_and_j(self):
        for n in (2, 3, 6):
            for value in no_claimant(n):
                for statements in ((), INCONSISTENT):
                    with self.subTest(n=n, value_class=type(value)):
                        for j in (0, n, None):
                            with refusal(self, InvalidClaimant, value):
                                ratio_bounds(n, statements, value, j)
                        with refusal(self, InvalidClaimant, value):
                            ratio_bounds(n, statements, 0, value)
                        with refusal(self, InvalidClaimant, value):
                            part_bounds(n, statements, value)
                        for items in (0, 3, MOST, MOST + 1):
                            with refusal(self, InvalidClaimant, value):
                                count_bounds(n, statements, HALF, items, value)
            for i in range(n):
                for statements in ((), INCONSISTENT):
                    with refusal(self, InvalidClaimant, i):
                        ratio_bounds(n, statements, i, i)

    def test_rules_before_items(self):
        for value in NO_RULES:
            for statements in ((), INCONSISTENT):
                for items in (3, -1, MOST + 1, None):
                    with self.subTest(value_class=type(value)):
                        with refusal(self, NotARule, value):
                            count_bounds(2, statements, value, items, None)
                        with refusal(self, NotARule, value):
                            possible_divisions(2, statements, value, items)

    def test_items(self):
        for value in NO_COUNTS:
            for statements in ((), INCONSISTENT):
                with self.subTest(value_class=type(value)):
                    for i in (0, 2, None):
                        with refusal(self, InvalidCount, value):
                            count_bounds(2, statements, HALF, value, i)
                    with refusal(self, InvalidCount, value):
                        possible_divisions(2, statements, HALF, value)

    def limit(self, expected, function, *arguments):
        with self.assertRaises(TooManyItems) as caught:
            function(*arguments)
        self.assertEqual((type(caught.exception.limit), caught.exception.limit), (int, expected))

    def test_too_many_items_before_inconsistent(self):
        for statements in ((), (GOOD,), INCONSISTENT):
            for items in (MOST + 1, 2 * MOST, LONG):
                self.limit(MOST, count_bounds, 2, statements, HALF, items, 0)
            for items in (11, 12, MOST, MOST + 1, LONG):
                self.limit(10, possible_divisions, 2, statements, HALF, items)

    def test_inconsistent_last_of_all(self):
        for statements in (INCONSISTENT, (BAD,), (GOOD,) * 11 + (BAD,), (("unique", HALF, (3, 0), (1, 9)), GOOD, BAD)):
            for function, rest in (
                (some_claims, ()), (ratio_bounds, (0, 1)), (part_bounds, (1,)), (count_bounds, (HALF, 3, 0)),
                (count_bounds, (HALF, MOST, 1)), (count_bounds, (HALF, 0, 1)), (possible_divisions, (HALF, 10)),
                (possible_divisions, (HALF, 0)),
            ):
                with self.subTest(function=function.__name__, statements=statements):
                    with self.assertRaises(Inconsistent) as caught:
                        function(2, statements, *rest)
                    self.assertEqual(vars(caught.exception), {})
            self.assertIs(consistent(2, statements), False)
            self.assertIsNotNone(contradiction(2, statements))

    def test_accepted_at_the_limits(self):
        for n in (2, 6):
            for statements in ((), (GOOD,), (GOOD,) * 12):
                with self.subTest(n=n, statements=statements):
                    self.assertEqual(len(some_claims(n, statements)), n)
                    self.assertEqual(len(ratio_bounds(n, statements, n - 1, 0)), 4)
                    self.assertEqual(len(part_bounds(n, statements, n - 1)), 4)
                    self.assertEqual(len(count_bounds(n, statements, HALF, MOST, n - 1)), 2)
                    self.assertEqual(count_bounds(n, statements, HALF, 0, 0), (0, 0))
                    self.assertGreater(len(possible_divisions(n, statements, HALF, 10)), 0)
                    self.assertEqual(possible_divisions(n, statements, HALF, 0), ((0,) * n,))


if __name__ == "__main__":
    unittest.main()
