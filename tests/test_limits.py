"""wholeshares.limits."""

import unittest

from wholeshares import limits

LIMITS = {
    "MOST_CLAIMANTS": 6,
    "MOST_SHARERS": 12,
    "MOST_HEAD": 8,
    "MOST_STATEMENTS": 12,
    "MOST_ITEMS": 1000000000000000000,
    "MOST_COMPARED": 200,
    "MOST_LISTED": 10,
}


class LimitsTest(unittest.TestCase):
    def test_each_name_has_the_listed_value(self):
        for name, value in LIMITS.items():
            with self.subTest(name):
                self.assertEqual(getattr(limits, name), value)
                self.assertIs(type(getattr(limits, name)), int)


if __name__ == "__main__":
    unittest.main()
