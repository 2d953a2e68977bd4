"""wholeshares.divisions: drawn rules and claims by the condition of point 8, and how long a call takes."""

import random
import time
import unittest

from tests import drawn
from tests.model import fair, neighbours
from wholeshares.divisions import fair_division, fair_divisions, is_fair, next_claimants
from wholeshares.rules import Rule

MOST = 10 ** 18
LONGEST = (
    (Rule((1, 2), 0, 1, 2, (5, 2), 3, 4, 5, 6), ((53, 7), (24, 11), (23, 13), (7, 9), (11, 2), (5, 3))),
    (Rule((1, 2)), (53, 24, 23, 7, 11, 5)),
)


def shortest_time(act):
    """Return the seconds that 100 calls take, the least of several tries."""
    times = []
    for _ in range(7):
        start = time.process_time()
        for _ in range(100):
            act()
        times.append(time.process_time() - start)
    return min(times)


class DrawnTest(unittest.TestCase):
    def test_exactly_the_fair_divisions(self):
        chance = random.Random(1)
        tied = 0
        for _ in range(1500):
            rule, claims = drawn.rule(chance), drawn.claims(chance, chance.randint(1, 6))
            items = drawn.items(chance)
            with self.subTest(rule=str(rule), claims=claims, items=items):
                found = fair_divisions(rule, claims, items)
                self.assertEqual(sum(found[0]), items)
                expected = tuple(near for near in neighbours(found[0]) if fair(rule, claims, near))
                self.assertEqual(found, expected)
                self.assertEqual(fair_division(rule, claims, items), expected[0])
                tied += len(found) > 1
        self.assertGreater(tied, 100)

    def test_who_is_next(self):
        chance = random.Random(2)
        for _ in range(1500):
            rule, claims = drawn.rule(chance), drawn.claims(chance, chance.randint(1, 6))
            items = drawn.items(chance)
            division = chance.choice(fair_divisions(rule, claims, items))
            more = [division[:k] + (division[k] + 1,) + division[k + 1:] for k in range(len(claims))]
            expected = tuple(k for k, other in enumerate(more) if fair(rule, claims, other))
            with self.subTest(rule=str(rule), claims=claims, division=division):
                self.assertEqual(next_claimants(rule, claims, division), expected)
                self.assertEqual(tuple(k for k, other in enumerate(more) if is_fair(rule, claims, other)), expected)


class TimeTest(unittest.TestCase):
    def test_a_quarter_of_a_millisecond(self):
        for rule, claims in LONGEST:
            for items in (0, 10, 47, 100, MOST):
                with self.subTest(rule=str(rule), items=items):
                    self.assertLess(shortest_time(lambda: fair_divisions(rule, claims, items)), 0.025)
                    self.assertLess(shortest_time(lambda: fair_division(rule, claims, items)), 0.025)

    def test_heads_far_from_the_other_marks(self):
        # The first counts are far from the result here, above it or below it.
        for start in (0, 41, 81):
            rule = Rule(1, *[(start + k, 10) for k in range(8)])
            for claims in ((10, 11, 12, 13, 14, 15), (100, 1, 1, 1, 1, 1), (1, 1, 1, 1, 1, 1)):
                for items in (20, 47, 60, 100, MOST):
                    with self.subTest(rule=str(rule), claims=claims, items=items):
                        self.assertLess(shortest_time(lambda: fair_divisions(rule, claims, items)), 0.05)


if __name__ == "__main__":
    unittest.main()
