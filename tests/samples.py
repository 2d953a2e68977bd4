"""Values that the tests pass where an argument is checked, and what the tests ask of errors."""

import contextlib
import fractions


class Plain:
    """An object of a class that the program does not know."""


class EqualToAll:
    """An object that claims to be equal to everything."""

    def __eq__(self, other):
        return True

    def __ne__(self, other):
        return False


class Unequal:
    """An object that cannot be compared, hashed, measured, shown or asked for its truth."""

    def fail(self, *_):
        raise AssertionError("the program looked into a value of a foreign class")

    __eq__ = __ne__ = __lt__ = __le__ = __gt__ = __ge__ = fail
    __hash__ = __len__ = __bool__ = __repr__ = __str__ = __iter__ = __getitem__ = fail
    __int__ = __index__ = __add__ = __radd__ = __mul__ = __rmul__ = fail


# No integers, and no pairs of integers with a denominator of at least 1.
NO_NUMBERS = (
    True, False, None, "", "1", "1/2", b"1", [], [1, 2], {}, {1: 2}, {1, 2}, frozenset((1, 2)),
    (), (1,), (1, 2, 3), (0, 0), (1, 0), (1, -2), (0, -1), (-1, -2),
    (True, 1), (False, 1), (1, True), (0, True), (False, True), (None, 1), (0, None), ("0", 1), (0, "1"),
    ((0, 1), 1), (0, (1, 1)), ((1, 2), (1, 2)), ([0], 1), fractions.Fraction(1, 2), complex(0, 1),
    range(2), len, int, Plain, Plain(), EqualToAll(), Unequal(), (Unequal(), 1), (0, Unequal()), NotImplemented, ...,
)

# No integers of at least 0.
NO_COUNTS = NO_NUMBERS + (-1, -2, -10 ** 59, (0, 1), (1, 1), (5, 1), (1, 2))


@contextlib.contextmanager
def refusal(case, error_class, value):
    """Expect exactly this error, with this very value (or this index) and nothing else in it."""
    with case.assertRaises(error_class) as caught:
        yield
    error = caught.exception
    case.assertIs(type(error), error_class)
    (name, kept), = vars(error).items()
    if name == "index":
        case.assertEqual((type(kept), kept), (type(value), value))
    else:
        case.assertIs(kept, value)


# Arguments of rules that are accepted, with the offset, the head and the text that each rule then has.
EIGHT = tuple((2 * k + 1, 2) for k in range(8))
LONG = 10 ** 59 + 7
RULES = (
    ((0,), (0, 1), (), "| 0"),
    ((1,), (1, 1), (), "| 1"),
    (((0, 5),), (0, 1), (), "| 0"),
    (((7, 7),), (1, 1), (), "| 1"),
    (((1, 2),), (1, 2), (), "| 1/2"),
    (((30, 60),), (1, 2), (), "| 1/2"),
    (((LONG - 1, LONG),), (LONG - 1, LONG), (), f"| {LONG - 1}/{LONG}"),
    (((1, 2), (14, 20)), (1, 2), ((7, 10),), "7/10 | 1/2"),
    (((1, 2), (1, 2)), (1, 2), ((1, 2),), "1/2 | 1/2"),
    (((1, 2), 0), (1, 2), ((0, 1),), "0 | 1/2"),
    ((1, 0), (1, 1), ((0, 1),), "0 | 1"),
    ((1, 1), (1, 1), ((1, 1),), "1 | 1"),
    ((0, (0, 9)), (0, 1), ((0, 1),), "0 | 0"),
    ((0, (LONG - 1, LONG)), (0, 1), ((LONG - 1, LONG),), f"{LONG - 1}/{LONG} | 0"),
    ((0, 0, 1, 2), (0, 1), ((0, 1), (1, 1), (2, 1)), "0 1 2 | 0"),
    ((0, (3, 6), (6, 4)), (0, 1), ((1, 2), (3, 2)), "1/2 3/2 | 0"),
    ((1, 1, 2, 3, 4, 5, 6, 7, 8), (1, 1), tuple((k, 1) for k in range(1, 9)), "1 2 3 4 5 6 7 8 | 1"),
    (((1, 2),) + EIGHT, (1, 2), EIGHT, "1/2 3/2 5/2 7/2 9/2 11/2 13/2 15/2 | 1/2"),
    (((2, 3), 0, (1, 9), (2, 9), (1, 3), (4, 9), (5, 9), (6, 9), (77, 9)), (2, 3),
     ((0, 1), (1, 9), (2, 9), (1, 3), (4, 9), (5, 9), (2, 3), (77, 9)),
     "0 1/9 2/9 1/3 4/9 5/9 2/3 77/9 | 2/3"),
)
