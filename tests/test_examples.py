"""The interface of the modules as the document lists it, and the document's examples.

>>> from wholeshares.divisions import fair_division, fair_divisions, is_fair, next_claimants
>>> from wholeshares.rules import Rule
>>> claims = (53, 24, 23)
>>> [fair_division(Rule(1), claims, 7), fair_division(Rule((1, 2)), claims, 7), fair_division(Rule(0), claims, 7)]
[(4, 2, 1), (3, 2, 2), (3, 2, 2)]
>>> [fair_divisions(Rule(1), (2, 1, 1), 2), is_fair(Rule(1), claims, (5, 1, 1))]
[((2, 0, 0), (1, 1, 0), (1, 0, 1)), False]
>>> [next_claimants(Rule(1), (2, 1, 1), (2, 0, 0)), sum(fair_division(Rule(1), claims, 10 ** 18))]
[(1, 2), 1000000000000000000]

>>> from wholeshares.comparing import first_difference, first_unkind, most_apart, same_divisions
>>> middle, sample = Rule((1, 2)), Rule((1, 2), (7, 10))
>>> items, claims, division = first_difference(middle, sample)
>>> [items, is_fair(middle, claims, division) == is_fair(sample, claims, division)]
[2, False]
>>> [same_divisions(middle, Rule((2, 4))), first_unkind(Rule(0), Rule(1)), first_unkind(Rule(1), middle)]
[True, None, (0, 1)]
>>> [first_unkind(sample, middle), first_unkind(middle, sample), most_apart(Rule(0), Rule(1), 4)]
[(0, 1), None, 1]
"""

import doctest
import importlib
import inspect
import sys
import unittest

PARAMETERS = {
    "samples": {"sample_rule": [], "sample_statements": []},
    "divisions": {
        "is_fair": ["rule", "claims", "division"],
        "fair_divisions": ["rule", "claims", "items"],
        "fair_division": ["rule", "claims", "items"],
        "next_claimants": ["rule", "claims", "division"],
    },
    "comparing": {
        "first_difference": ["rule", "other_rule"],
        "same_divisions": ["rule", "other_rule"],
        "first_unkind": ["rule", "other_rule"],
        "most_apart": ["rule", "other_rule", "items"],
    },
}


class ExamplesTest(unittest.TestCase):
    def test_examples_give_what_is_printed(self):
        result = doctest.testmod(sys.modules[__name__])
        self.assertEqual(result.failed, 0)
        self.assertGreater(result.attempted, 0)


class InterfaceTest(unittest.TestCase):
    def test_functions_stand_in_their_files_with_their_parameters(self):
        for module_name, functions in PARAMETERS.items():
            module = importlib.import_module(f"wholeshares.{module_name}")
            for name, parameters in functions.items():
                with self.subTest(module=module_name, function=name):
                    function = getattr(module, name)
                    self.assertTrue(inspect.isfunction(function))
                    self.assertEqual(function.__module__, module.__name__)
                    self.assertEqual(list(inspect.signature(function).parameters), parameters)


if __name__ == "__main__":
    unittest.main()
