"""The errors of the package.

Each class derives straight from its base, and the bases keep nothing: hence
each class that keeps its argument does so itself.
"""


class InputError(ValueError):
    """An argument is invalid."""


class NotARule(InputError):
    """The value is not a Rule."""

    def __init__(self, value):
        self.value = value


class NotAnInquiry(InputError):
    """The value is not an Inquiry."""

    def __init__(self, value):
        self.value = value


class InvalidOffset(InputError):
    """The value is not a number from 0 to 1."""

    def __init__(self, value):
        self.value = value


class InvalidText(InputError):
    """The value is not the text of a rule."""

    def __init__(self, value):
        self.value = value


class InvalidCount(InputError):
    """The value is not an integer of at least 0, or is too large here."""

    def __init__(self, value):
        self.value = value


class InvalidClaimants(InputError):
    """The value is not a possible number of claimants."""

    def __init__(self, value):
        self.value = value


class InvalidClaimant(InputError):
    """The value is not a claimant who may stand here."""

    def __init__(self, value):
        self.value = value


class InvalidPlace(InputError):
    """The value is not the place of a statement."""

    def __init__(self, value):
        self.value = value


class InvalidRow(InputError):
    """The value is not a row that the console can answer."""

    def __init__(self, value):
        self.value = value


class NotFair(InputError):
    """The value is a division that is not fair."""

    def __init__(self, value):
        self.value = value


class InvalidHead(InputError):
    """The head has no valid mark at the index, or has too many marks."""

    def __init__(self, index):
        self.index = index


class InvalidClaims(InputError):
    """The claims have no positive number at the index, or are no claims at all."""

    def __init__(self, index):
        self.index = index


class InvalidDivision(InputError):
    """The division has no count at the index, or is no division of these claimants."""

    def __init__(self, index):
        self.index = index


class InvalidStatements(InputError):
    """There is no statement at the index, or there are too many."""

    def __init__(self, index):
        self.index = index


class InvalidDeeds(InputError):
    """There is no deed at the index."""

    def __init__(self, index):
        self.index = index


class StateError(LookupError):
    """What is asked for is not there, or not now."""


class Inconsistent(StateError):
    """No claims satisfy the statements."""


class NothingToUndo(StateError):
    """No change is left that could be reversed."""


class Busy(StateError):
    """The inquiry is being changed."""


class SizeError(ArithmeticError):
    """An argument is valid, but too large for this call."""


class TooManyItems(SizeError):
    """There are more items than the limit."""

    def __init__(self, limit):
        self.limit = limit


class TooManyStatements(SizeError):
    """There are already as many statements as the limit."""

    def __init__(self, limit):
        self.limit = limit
