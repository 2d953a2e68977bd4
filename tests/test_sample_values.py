"""wholeshares.samples."""

import unittest

from wholeshares.rules import Rule
from wholeshares.samples import sample_rule, sample_statements


class SamplesTest(unittest.TestCase):
    def test_sample_rule(self):
        rule = sample_rule()
        self.assertIs(type(rule), Rule)
        self.assertEqual([str(rule), rule.offset, rule.head], ["7/10 | 1/2", (1, 2), ((7, 10),)])

    def test_sample_statements(self):
        statements = sample_statements()
        self.assertEqual(statements, (("fair", Rule((1, 2), (7, 10)), (4, 2, 1), None), ("ratio", 0, 2, None, 4)))
        self.assertEqual([type(statement) for statement in statements], [tuple, tuple])
        self.assertEqual(str(statements[0][1]), "7/10 | 1/2")
        self.assertIs(type(statements[1][4]), int)

    def test_equal_calls_return_the_same(self):
        self.assertEqual(sample_rule(), sample_rule())
        self.assertEqual(sample_statements(), sample_statements())


if __name__ == "__main__":
    unittest.main()
