"""The interface of the modules as the document lists it, and the document's examples.

>>> from wholeshares.divisions import fair_division, fair_divisions, is_fair, next_claimants
>>> from wholeshares.rules import Rule
>>> claims = (53, 24, 23)
>>> [fair_division(Rule(1), claims, 7), fair_division(Rule((1, 2)), claims, 7), fair_division(Rule(0), claims, 7)]
[(4, 2, 1), (3, 2, 2), (3, 2, 2)]
>>> [fair_divisions(Rule(1), (2, 1, 1), 2), is_fair(Rule(1), claims, (5, 1, 1))]
[((2, 0, 0), (1, 1, 0), (1, 0, 1)), False]
>>> [next_claimants(Rule(1), (2, 1, 1), (2, 0, 0)), sum(fair_division(Rule(1), claims, 10 ** 18))]
[(1, 2), 1000000000000000000]

>>> from wholeshares.comparing import first_difference, first_unkind, most_apart, same_divisions
>>> middle, sample = Rule((1, 2)), Rule((1, 2), (7, 10))
>>> items, claims, division = first_difference(middle, sample)
>>> [items, is_fair(middle, claims, division) == is_fair(sample, claims, division)]
[2, False]
>>> [same_divisions(middle, Rule((2, 4))), first_unkind(Rule(0), Rule(1)), first_unkind(Rule(1), middle)]
[True, None, (0, 1)]
>>> [first_unkind(sample, middle), first_unkind(middle, sample), most_apart(Rule(0), Rule(1), 4)]
[(0, 1), None, 1]

>>> from wholeshares.parts import least_possible, least_sure, widest
>>> [least_possible(Rule(1), 2, 3, 1), least_sure(Rule(1), 2, 3, 1), least_sure(Rule(1), 3, 3, 2)]
[((1, 4), True), ((1, 4), False), ((1, 2), False)]
>>> [least_possible(Rule(0), 3, 3, 1), least_sure(Rule(0), 3, 2, 1), widest(Rule(1), 2, 1)]
[((0, 1), False), None, (((1, 2), True), ((1, 2), True))]

>>> from wholeshares.known import consistent, count_bounds, part_bounds, possible_divisions, ratio_bounds, steps_of
>>> from wholeshares.samples import sample_statements
>>> known = (("fair", Rule(1), (2, 1), None),)
>>> bad = known + (("ratio", 1, 0, 2, None),)
>>> ratio_bounds(3, sample_statements(), 0, 2)
((7, 3), True, (4, 1), True)
>>> part_bounds(3, sample_statements(), 0)
((7, 15), True, (12, 19), True)
>>> [steps_of(2, known[0]), consistent(2, bad), count_bounds(2, known, Rule(1), 10, 0)]
[((0, 1, (1, 1), False), (1, 0, (3, 1), False)), False, (5, 8)]
>>> possible_divisions(2, known, Rule(0), 3)
((2, 1), (1, 2))

>>> from wholeshares.inquiries import Inquiry
>>> inquiry = Inquiry(2)
>>> two, one = ("ratio", 0, 1, 2, None), ("ratio", 0, 1, None, 1)
>>> inquiry.change(("add", two), ("add", ("fair", Rule(1), (1, 1), None)), ("add", one))
>>> first = inquiry.conflicts()
>>> inquiry.undo()
>>> [first, inquiry.conflicts(), len(inquiry), repr(inquiry)]
[(0, 2), (), 2, 'Inquiry(2 claimants, 2 statements)']

>>> from wholeshares.certificates import certify_fair, certify_ratio, certify_statements
>>> from wholeshares.checker import holds
>>> fair = certify_fair(Rule(1), (53, 24, 23), 7)
>>> known = certify_statements(3, sample_statements())
>>> bound = certify_ratio(3, sample_statements(), 0, 1)
>>> [fair, known[0][0], holds(known[0], known[1])]
[(('fair', '| 1', ((53, 1), (24, 1), (23, 1)), (4, 2, 1)), ()), 'satisfied', True]
>>> [bound[0][5], holds(bound[0], bound[1]), holds(("unkind", "| 1", "| 1/2", 0, 1), ())]
[(3, 1), True, True]

>>> from wholeshares.reports import division_table, mark_line
>>> from wholeshares.samples import sample_rule
>>> [division_table(Rule(1), (53, 24, 23), 7).split("\\n"), mark_line(sample_rule(), 3)]
[['4 3.71', '2 1.68', '1 1.61'], '7/10 3/2 5/2']

>>> from wholeshares.console import Console
>>> console = Console(2)
>>> [console.say("fair 2,1 | 1"), console.say("bounds 0 1"), console.say("least 1 0 2"), console.say("check")]
['ok', '1 3', 'ok', 'conflict']
>>> [console.say("undo"), console.say("drop 0"), console.say("bounds 1 0"), console.say("undo")]
['ok', 'ok', '0 -', 'ok']
>>> [console.say("unique 1,0 | 0"), console.say("check")]
['ok', 'conflict']
"""

import doctest
import importlib
import inspect
import sys
import unittest

PARAMETERS = {
    "samples": {"sample_rule": [], "sample_statements": []},
    "divisions": {
        "is_fair": ["rule", "claims", "division"],
        "fair_divisions": ["rule", "claims", "items"],
        "fair_division": ["rule", "claims", "items"],
        "next_claimants": ["rule", "claims", "division"],
    },
    "comparing": {
        "first_difference": ["rule", "other_rule"],
        "same_divisions": ["rule", "other_rule"],
        "first_unkind": ["rule", "other_rule"],
        "most_apart": ["rule", "other_rule", "items"],
    },
    "parts": {
        "least_possible": ["rule", "claimants", "items", "count"],
        "least_sure": ["rule", "claimants", "items", "count"],
        "widest": ["rule", "claimants", "items"],
    },
    "known": {
        "steps_of": ["claimants", "statement"],
        "consistent": ["claimants", "statements"],
        "some_claims": ["claimants", "statements"],
        "contradiction": ["claimants", "statements"],
        "ratio_bounds": ["claimants", "statements", "i", "j"],
        "part_bounds": ["claimants", "statements", "i"],
        "count_bounds": ["claimants", "statements", "rule", "items", "i"],
        "possible_divisions": ["claimants", "statements", "rule", "items"],
    },
    "inquiries": {"attempt": ["inquiry", "act"]},
    "checker": {"holds": ["claim", "paper"]},
    "certificates": {
        "certify_fair": ["rule", "claims", "items"],
        "certify_different": ["rule", "other_rule"],
        "certify_unkind": ["rule", "other_rule"],
        "certify_statements": ["claimants", "statements"],
        "certify_ratio": ["claimants", "statements", "i", "j"],
    },
    "reports": {"division_table": ["rule", "claims", "items"], "mark_line": ["rule", "count"]},
}
METHODS = {
    ("rules", "Rule"): {
        "__init__": ["self", "offset", "head"], "read": ["text"], "mark": ["self", "number"], "__str__": ["self"],
        "__repr__": ["self"],
    },
    ("inquiries", "Inquiry"): {
        "__init__": ["self", "claimants"], "add": ["self", "statement"], "drop": ["self", "place"],
        "change": ["self", "deeds", "watch"], "undo": ["self"], "trial": ["self"], "conflicts": ["self"],
        "__len__": ["self"], "__repr__": ["self"],
    },
    ("console", "Console"): {"__init__": ["self", "claimants"], "say": ["self", "row"]},
}


class ExamplesTest(unittest.TestCase):
    def test_examples_give_what_is_printed(self):
        result = doctest.testmod(sys.modules[__name__])
        self.assertEqual(result.failed, 0)
        self.assertGreater(result.attempted, 0)


class InterfaceTest(unittest.TestCase):
    def test_functions_stand_in_their_files_with_their_parameters(self):
        for module_name, functions in PARAMETERS.items():
            module = importlib.import_module(f"wholeshares.{module_name}")
            for name, parameters in functions.items():
                with self.subTest(module=module_name, function=name):
                    function = getattr(module, name)
                    self.assertTrue(inspect.isfunction(function))
                    self.assertEqual(function.__module__, module.__name__)
                    self.assertEqual(list(inspect.signature(function).parameters), parameters)

    def test_methods_stand_in_their_classes_with_their_parameters(self):
        for (module_name, class_name), methods in METHODS.items():
            module = importlib.import_module(f"wholeshares.{module_name}")
            owner = getattr(module, class_name)
            self.assertEqual(owner.__module__, module.__name__)
            for name, parameters in methods.items():
                with self.subTest(owner=class_name, method=name):
                    self.assertIn(name, vars(owner))
                    method = inspect.unwrap(getattr(owner, name))
                    self.assertEqual(list(inspect.signature(method).parameters), parameters)


if __name__ == "__main__":
    unittest.main()
