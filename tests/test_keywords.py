"""All functions, classes and methods take their arguments by keyword, in any order, as by position."""

import inspect
import itertools
import unittest

from tests.test_examples import METHODS, PARAMETERS
from wholeshares import (
    certificates, checker, comparing, console, divisions, errors, inquiries, known, parts, reports, rules, samples,
)

RULE, OTHER = rules.Rule(1), rules.Rule((1, 2), (7, 10))
STATEMENTS = (("fair", RULE, (2, 1), None), ("ratio", 0, 1, None, 2))
MODULES = {
    "samples": samples, "divisions": divisions, "comparing": comparing, "parts": parts, "known": known,
    "inquiries": inquiries, "checker": checker, "certificates": certificates, "reports": reports,
}
VALUES = {
    "rule": RULE, "other_rule": OTHER, "claims": (53, (24, 5)), "division": (4, 0), "items": 7, "count": 2,
    "claimants": 2, "statements": STATEMENTS, "statement": STATEMENTS[0], "i": 1, "j": 0,
    "claim": ("unkind", "| 1", "| 1/2", 0, 1), "paper": (), "inquiry": inquiries.Inquiry(2), "act": len,
}
# Which function needs another value for one of them.
OTHERS = {"next_claimants": {"division": (1, 0)}}


def told(function, *arguments, **by_name):
    """Return what a call returns, or the error that it raises, in a form that can be compared."""
    try:
        return repr(function(*arguments, **by_name))
    except (errors.InputError, errors.StateError, errors.SizeError) as error:
        return type(error), vars(error)


class FunctionsTest(unittest.TestCase):
    def check(self, function, names, values):
        expected = told(function, *values)
        for order in itertools.permutations(zip(names, values)):
            with self.subTest(function=function.__qualname__, order=[name for name, _ in order]):
                self.assertEqual(told(function, **dict(order)), expected)
        for many in range(len(names)):
            rest = dict(list(zip(names, values))[many:][::-1])
            self.assertEqual(told(function, *values[:many], **rest), expected)
        return expected

    def test_every_function_of_the_interface(self):
        for module_name, functions in PARAMETERS.items():
            for name, names in functions.items():
                values = [OTHERS.get(name, {}).get(one, VALUES[one]) for one in names]
                expected = self.check(getattr(MODULES[module_name], name), names, values)
                self.assertIsInstance(expected, str)
                # The same where the first argument is refused.
                if names:
                    self.check(getattr(MODULES[module_name], name), names, [None] + values[1:])

    def test_classes_and_methods(self):
        self.check(rules.Rule, ["offset"], [(1, 2)])
        self.check(rules.Rule.read, ["text"], ["7/10 | 1/2"])
        self.check(RULE.mark, ["number"], [5])
        self.check(inquiries.Inquiry, ["claimants"], [3])
        self.assertEqual(console.Console(claimants=2).say(row="check"), "consistent")
        for act, name, value in (("add", "statement", STATEMENTS[0]), ("drop", "place", 1)):
            by_position, by_name = inquiries.Inquiry(2), inquiries.Inquiry(2)
            for inquiry in (by_position, by_name):
                inquiry.change(*[("add", one) for one in STATEMENTS])
            getattr(by_position, act)(value)
            getattr(by_name, act)(**{name: value})
            self.assertEqual(by_name.statements, by_position.statements)
        calls = []
        inquiries.Inquiry(2).change(("add", STATEMENTS[0]), watch=lambda *arguments: calls.append(arguments))
        self.assertEqual(len(calls), 1)

    def test_errors(self):
        kept = 0
        for name, error_class in vars(errors).items():
            if not inspect.isclass(error_class):
                continue
            for attribute in ("value", "index", "limit"):
                if attribute in inspect.signature(error_class.__init__).parameters:
                    by_name, by_position = error_class(**{attribute: 7}), error_class(7)
                    kept += 1
                    with self.subTest(name):
                        self.assertEqual((vars(by_name), vars(by_position)), ({attribute: 7}, {attribute: 7}))
        self.assertEqual(kept, 10 + 5 + 2)

    def test_no_function_of_the_interface_is_left_out(self):
        self.assertEqual(sum(len(functions) for functions in PARAMETERS.values()), 2 + 4 + 4 + 3 + 8 + 1 + 1 + 5 + 2)
        self.assertEqual(len(METHODS), 3)


if __name__ == "__main__":
    unittest.main()
