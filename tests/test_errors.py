"""wholeshares.errors."""

import inspect
import unittest

from tests.samples import NO_COUNTS
from wholeshares import errors

VALUE = (
    "NotARule", "NotAnInquiry", "InvalidOffset", "InvalidText", "InvalidCount", "InvalidClaimants",
    "InvalidClaimant", "InvalidPlace", "InvalidRow", "NotFair",
)
INDEX = ("InvalidHead", "InvalidClaims", "InvalidDivision", "InvalidStatements", "InvalidDeeds")
STATE = ("Inconsistent", "NothingToUndo", "Busy")
LIMIT = ("TooManyItems", "TooManyStatements")

BASES = {"InputError": ValueError, "StateError": LookupError, "SizeError": ArithmeticError}
KEEPERS = {name: "value" for name in VALUE}
KEEPERS.update({name: "index" for name in INDEX})
KEEPERS.update({name: "limit" for name in LIMIT})
PARENTS = {name: "InputError" for name in VALUE + INDEX}
PARENTS.update({name: "StateError" for name in STATE})
PARENTS.update({name: "SizeError" for name in LIMIT})

ARGUMENTS = NO_COUNTS + (0, 1, 12, 10 ** 18, "| 1", errors, errors.Busy(), (1, (2, (3, [4]))))


class ErrorsTest(unittest.TestCase):
    def test_all_classes_stand_in_this_file(self):
        for name in list(BASES) + list(PARENTS):
            with self.subTest(name):
                self.assertTrue(inspect.isclass(getattr(errors, name)))
                self.assertEqual(getattr(errors, name).__module__, "wholeshares.errors")

    def test_bases_derive_from_their_python_class_only(self):
        for name, python_class in BASES.items():
            with self.subTest(name):
                self.assertEqual(getattr(errors, name).__bases__, (python_class,))

    def test_others_derive_from_their_base_only(self):
        for name, parent in PARENTS.items():
            with self.subTest(name):
                self.assertEqual(getattr(errors, name).__bases__, (getattr(errors, parent),))

    def test_each_class_keeps_its_argument(self):
        for name, attribute in KEEPERS.items():
            error_class = getattr(errors, name)
            for argument in ARGUMENTS:
                for error in (error_class(argument), error_class(**{attribute: argument})):
                    with self.subTest(name=name, argument_class=type(argument)):
                        self.assertEqual(list(vars(error)), [attribute])
                        self.assertIs(getattr(error, attribute), argument)

    def test_each_class_needs_its_argument(self):
        for name in KEEPERS:
            with self.subTest(name):
                self.assertRaises(TypeError, getattr(errors, name))

    def test_bases_and_state_errors_keep_nothing(self):
        for name in tuple(BASES) + STATE:
            for error in (getattr(errors, name)(), getattr(errors, name)("why")):
                with self.subTest(name):
                    self.assertEqual(vars(error), {})
                    for attribute in ("value", "index", "limit"):
                        self.assertFalse(hasattr(error, attribute))

    def test_errors_are_caught_by_base_and_python_class(self):
        for name, parent in PARENTS.items():
            arguments = ("why",) if name in KEEPERS else ()
            for caught in (getattr(errors, name), getattr(errors, parent), BASES[parent]):
                with self.subTest(name=name, caught=caught), self.assertRaises(caught):
                    raise getattr(errors, name)(*arguments)


if __name__ == "__main__":
    unittest.main()
