"""wholeshares.inquiries."""

import itertools
import random
import unittest

from tests import steps_model
from tests.samples import LONG, NO_COUNTS, EqualToAll, Plain, Unequal, refusal
from tests.statement_samples import mixed
from tests.wrong_values import HALF, no_claimants, no_statements
from wholeshares.errors import (
    Busy, InvalidClaimants, InvalidDeeds, InvalidPlace, InvalidStatements, NotAnInquiry, NothingToUndo,
    TooManyStatements,
)
from wholeshares.inquiries import Inquiry, attempt
from wholeshares.rules import Rule

ONE, TWO, THREE = ("ratio", 0, 1, 1, 2), ("ratio", 0, 1, (3, 2), None), ("unique", HALF, (2, 1), None)
FOUR = ("fair", Rule(1), (1, 1), (2, (1, 3)))
ALL = (ONE, TWO, THREE, FOUR)


class Stop(BaseException):
    """No error of the usual kind."""


def with_statements(*statements, claimants=2):
    inquiry = Inquiry(claimants)
    for statement in statements:
        inquiry.add(statement)
    return inquiry


def undone(inquiry):
    """Return the statements after each possible undo, and undo none of them."""
    with inquiry.trial():
        states = []
        while True:
            try:
                inquiry.undo()
            except NothingToUndo:
                return states
            states.append(inquiry.statements)


def state(inquiry):
    return inquiry.statements, undone(inquiry), inquiry.claimants


class CreationTest(unittest.TestCase):
    def test_properties_of_a_new_inquiry(self):
        for claimants in range(2, 7):
            inquiry = Inquiry(claimants)
            self.assertEqual((inquiry.claimants, inquiry.statements, inquiry.busy), (claimants, (), False))
            self.assertEqual((type(inquiry.statements), type(inquiry.busy)), (tuple, bool))
            self.assertEqual((len(inquiry), bool(inquiry), inquiry.conflicts()), (0, False, ()))
            self.assertEqual(repr(inquiry), f"Inquiry({claimants} claimants, 0 statements)")
            with self.assertRaises(NothingToUndo) as caught:
                inquiry.undo()
            self.assertEqual(vars(caught.exception), {})
        self.assertEqual(Inquiry(claimants=3).claimants, 3)

    def test_numbers_of_claimants_that_are_refused(self):
        for value in no_claimants(6):
            with self.subTest(type(value)), refusal(self, InvalidClaimants, value):
                Inquiry(value)

    def test_length_truth_and_repr(self):
        inquiry = Inquiry(2)
        for many in range(1, 13):
            inquiry.add(ONE)
            self.assertEqual((len(inquiry), bool(inquiry)), (many, True))
            self.assertEqual(repr(inquiry), f"Inquiry(2 claimants, {many} statements)")
            self.assertEqual(str(inquiry), repr(inquiry))

    def test_equal_only_to_itself(self):
        inquiry, other = Inquiry(2), Inquiry(2)
        self.assertTrue(inquiry == inquiry)
        self.assertFalse(inquiry != inquiry)
        for value in (other, None, (), 2, "Inquiry(2 claimants, 0 statements)", Plain()):
            self.assertFalse(inquiry == value)
            self.assertTrue(inquiry != value)
        self.assertEqual(len({inquiry: 1, other: 2}), 2)


class ChangesTest(unittest.TestCase):
    def test_add_and_drop(self):
        inquiry = Inquiry(2)
        for k, statement in enumerate(ALL):
            self.assertIsNone(inquiry.add(statement))
            self.assertEqual(inquiry.statements, ALL[:k + 1])
            self.assertIs(inquiry.statements[k], statement)
        self.assertIsNone(inquiry.drop(1))
        self.assertEqual(inquiry.statements, (ONE, THREE, FOUR))
        inquiry.drop(place=2)
        inquiry.drop(0)
        inquiry.add(statement=ONE)
        inquiry.add(ONE)
        self.assertEqual(inquiry.statements, (THREE, ONE, ONE))

    def test_statements_that_contradict_each_other_are_added(self):
        inquiry = with_statements(("ratio", 0, 1, 3, 2), ("unique", Rule(0), (1, 0), None))
        self.assertEqual(len(inquiry), 2)

    def test_a_tuple_of_statements_stays_as_it_was(self):
        inquiry = with_statements(ONE)
        before = inquiry.statements
        inquiry.add(TWO)
        inquiry.drop(0)
        self.assertEqual(before, (ONE,))

    def test_undo(self):
        inquiry = Inquiry(2)
        states = [()]
        for act, argument in (("add", ONE), ("add", TWO), ("drop", 0), ("add", THREE), ("drop", 1), ("drop", 0)):
            getattr(inquiry, act)(argument)
            states.append(inquiry.statements)
        self.assertEqual(states, [(), (ONE,), (ONE, TWO), (TWO,), (TWO, THREE), (TWO,), ()])
        for expected in states[-2::-1]:
            self.assertIsNone(inquiry.undo())
            self.assertEqual(inquiry.statements, expected)
        with self.assertRaises(NothingToUndo):
            inquiry.undo()
        self.assertEqual(inquiry.statements, ())

    def test_undo_is_no_change_to_be_undone(self):
        inquiry = with_statements(ONE, TWO)
        inquiry.undo()
        inquiry.add(THREE)
        self.assertEqual(undone(inquiry), [(ONE,), ()])

    def test_change_is_undone_deed_by_deed(self):
        inquiry = with_statements(ONE)
        self.assertIsNone(inquiry.change(("add", TWO), ("drop", 0), ("add", THREE)))
        self.assertEqual(inquiry.statements, (TWO, THREE))
        self.assertEqual(undone(inquiry), [(TWO,), (ONE, TWO), (ONE,), ()])
        inquiry.change()
        inquiry.change(watch=None)
        self.assertEqual(undone(inquiry), [(TWO,), (ONE, TWO), (ONE,), ()])

    def test_drawn_changes(self):
        chance = random.Random(41)
        for _ in range(150):
            inquiry, expected, past = Inquiry(2), (), []
            for _ in range(40):
                kind = chance.randrange(5)
                deeds = [chance.choice((("add", chance.choice(ALL)), ("drop", chance.randrange(4))))
                         for _ in range(chance.randint(0, 4))]
                if kind == 0 and past:
                    inquiry.undo()
                    expected = past.pop()
                elif kind <= 2:
                    states = [expected]
                    for word, subject in deeds:
                        rows = states[-1]
                        if (word == "add" and len(rows) == 12) or (word == "drop" and subject >= len(rows)):
                            states = None
                            break
                        rows = rows + (subject,) if word == "add" else rows[:subject] + rows[subject + 1:]
                        states.append(rows)
                    if states is None:
                        with self.assertRaises((TooManyStatements, InvalidPlace)):
                            inquiry.change(*deeds)
                    else:
                        inquiry.change(*deeds)
                        past, expected = past + states[:-1], states[-1]
                else:
                    with inquiry.trial():
                        for word, subject in deeds:
                            if word == "add" and len(inquiry) < 12:
                                inquiry.add(subject)
                            elif past:
                                inquiry.undo()
                                break
                self.assertEqual((inquiry.statements, undone(inquiry)), (expected, past[::-1]))

    def test_many_changes(self):
        inquiry = Inquiry(2)
        for _ in range(5000):
            inquiry.add(ONE)
            inquiry.drop(0)
        for k in range(10000):
            self.assertEqual(len(inquiry), k % 2)
            inquiry.undo()
        self.assertEqual(inquiry.statements, ())


class WatchTest(unittest.TestCase):
    def test_it_is_called_after_each_deed(self):
        inquiry = with_statements(ONE)
        told = []

        def watch(*arguments):
            told.append((arguments, inquiry.statements, inquiry.busy))

        inquiry.change(("add", TWO), ("drop", 0), ("add", THREE), watch=watch)
        self.assertEqual([one[0][0] is inquiry for one in told], [True] * 3)
        self.assertEqual([(len(one[0]), type(one[0][1]), one[0][1]) for one in told], [(2, int, k) for k in range(3)])
        self.assertEqual([one[1:] for one in told], [((ONE, TWO), True), ((TWO,), True), ((TWO, THREE), True)])
        self.assertIs(inquiry.busy, False)
        inquiry.change(watch=watch)
        self.assertEqual(len(told), 3)

    def test_a_false_watch_is_called_too(self):
        class Quiet:
            many = 0

            def __len__(self):
                return 0

            def __call__(self, inquiry, place):
                self.many += 1

        watch = Quiet()
        Inquiry(2).change(("add", ONE), ("add", TWO), watch=watch)
        self.assertEqual(watch.many, 2)

    def test_errors_of_watch(self):
        for error_class in (ValueError, Busy, KeyError, Stop, GeneratorExit, KeyboardInterrupt, StopIteration):
            for bad in range(3):
                inquiry = with_statements(ONE, TWO)
                inquiry.drop(0)
                before = state(inquiry)
                error = error_class()

                def watch(_, place):
                    if place == bad:
                        raise error

                with self.subTest(error=error_class.__name__, bad=bad):
                    with self.assertRaises(error_class) as caught:
                        inquiry.change(("add", THREE), ("drop", 0), ("add", FOUR), watch=watch)
                    self.assertIs(caught.exception, error)
                    self.assertIs(inquiry.busy, False)
                    self.assertEqual(state(inquiry), before)

    def test_what_is_no_function(self):
        inquiry = with_statements(ONE)
        for watch in (0, "", (), 7):
            with self.assertRaises(TypeError):
                inquiry.change(("add", TWO), watch=watch)
            self.assertEqual((state(inquiry), inquiry.busy), (((ONE,), [()], 2), False))


class RefusedTest(unittest.TestCase):
    def refused(self, inquiry, error_class, value, act):
        before = state(inquiry)
        if error_class is TooManyStatements:
            with self.assertRaises(TooManyStatements) as caught:
                act()
            self.assertEqual((type(caught.exception.limit), caught.exception.limit), (int, 12))
        else:
            with refusal(self, error_class, value):
                act()
        self.assertEqual(state(inquiry), before)
        self.assertIs(inquiry.busy, False)

    def test_statements(self):
        for claimants in (2, 3):
            for many in (0, 2, 12):
                inquiry = with_statements(*[("ratio", 0, 1, None, None)] * many, claimants=claimants)
                for value in no_statements(claimants):
                    with self.subTest(claimants=claimants, many=many, value_class=type(value)):
                        self.refused(inquiry, InvalidStatements, 0, lambda: inquiry.add(value))
                        self.refused(inquiry, InvalidStatements, 0, lambda: inquiry.change(("add", value)))

    def test_a_thirteenth_statement(self):
        inquiry = with_statements(*[ONE] * 12)
        self.refused(inquiry, TooManyStatements, 12, lambda: inquiry.add(TWO))
        self.refused(inquiry, TooManyStatements, 12, lambda: inquiry.change(("drop", 0), ("add", TWO), ("add", TWO)))
        inquiry.change(("drop", 3), ("add", TWO))
        self.assertEqual(inquiry.statements, (ONE,) * 11 + (TWO,))
        self.refused(inquiry, InvalidStatements, 0, lambda: inquiry.add(None))

    def test_places(self):
        for many in (0, 1, 3, 12):
            inquiry = with_statements(*[ONE] * many)
            for value in NO_COUNTS + (many, many + 1, LONG, "0", ONE, HALF):
                with self.subTest(many=many, value_class=type(value)):
                    self.refused(inquiry, InvalidPlace, value, lambda: inquiry.drop(value))
                    self.refused(inquiry, InvalidPlace, value, lambda: inquiry.change(("drop", value)))

    def test_the_places_are_those_at_the_time_of_the_deed(self):
        inquiry = with_statements(ONE, TWO)
        self.refused(inquiry, InvalidPlace, 1, lambda: inquiry.change(("drop", 0), ("drop", 1)))
        inquiry.change(("add", THREE), ("drop", 2), ("drop", 1), ("drop", 0))
        self.assertEqual(inquiry.statements, ())

    def test_deeds(self):
        good = ("add", ONE)
        inquiry = with_statements(TWO)
        wrong = NO_COUNTS + (
            0, "add", ("add",), ("add", ONE, TWO), ["add", ONE], {"add": ONE}, ("drop",), ("drop", 0, 0), ("Add", ONE),
            ("undo", 0), ("", ONE), (None, ONE), (b"add", ONE), (("add",), ONE), (EqualToAll(), ONE), (Unequal(), ONE),
            (0, "drop"), ("add ", ONE), ("change", good), (ONE, "add"), HALF, ["drop", 0], ("drop", 0, None),
        )
        for value in wrong:
            with self.subTest(type(value)):
                self.refused(inquiry, InvalidDeeds, 0, lambda: inquiry.change(value))
                self.refused(inquiry, InvalidDeeds, 2, lambda: inquiry.change(good, ("drop", 0), value, value))
                # Nothing is done, and nothing is called, before all deeds were looked at.
                calls = []
                self.refused(inquiry, InvalidDeeds, 1, lambda: inquiry.change(
                    ("add", None), value, watch=lambda *told: calls.append(told)))
                self.assertEqual(calls, [])

    def test_the_first_deed_that_cannot_be_done(self):
        inquiry = with_statements(ONE, TWO)
        for deeds, error_class, value in (
            ((("add", THREE), ("drop", 3), ("add", None)), InvalidPlace, 3),
            ((("drop", 0), ("add", None), ("drop", 9)), InvalidStatements, 0),
            ((("drop", 0), ("drop", 0), ("drop", 0)), InvalidPlace, 0),
            ((("add", Unequal()),), InvalidStatements, 0),
            ((("add", ONE),) * 11, TooManyStatements, 12),
        ):
            with self.subTest(deeds=len(deeds), error=error_class.__name__):
                places = []
                self.refused(inquiry, error_class, value, lambda: inquiry.change(
                    *deeds, watch=lambda _, place: places.append(place)))
                self.assertEqual(places, list(range(len(places))))

    def test_no_inquiries(self):
        for value in NO_COUNTS + (0, 2, HALF, Inquiry, "Inquiry(2 claimants, 0 statements)"):
            calls = []
            with self.subTest(type(value)), refusal(self, NotAnInquiry, value):
                attempt(value, calls.append)
            with self.subTest(type(value)), refusal(self, NotAnInquiry, value):
                attempt(act=None, inquiry=value)
            self.assertEqual(calls, [])


class BusyTest(unittest.TestCase):
    def test_while_it_changes(self):
        inquiry, other = with_statements(ONE), Inquiry(3)
        trial = inquiry.trial()
        places = []

        def watch(same, place):
            before = inquiry.statements
            for act in (
                lambda: inquiry.add(TWO), lambda: inquiry.drop(0), lambda: inquiry.change(), inquiry.undo, inquiry.trial,
                lambda: inquiry.change(("add", TWO)), lambda: attempt(inquiry, len),
                # Busy comes before all other errors.
                lambda: inquiry.add(None), lambda: inquiry.drop(None), lambda: inquiry.change(None),
                lambda: inquiry.change(("add", None), watch=watch), lambda: attempt(inquiry, None),
            ):
                with self.assertRaises(Busy) as caught:
                    act()
                self.assertEqual(vars(caught.exception), {})
            self.assertEqual((inquiry.statements, inquiry.busy), (before, True))
            # Everything else works.
            self.assertEqual((len(inquiry), bool(inquiry), inquiry.claimants), (len(before), True, 2))
            self.assertEqual(inquiry.conflicts(), ())
            self.assertEqual(repr(inquiry), f"Inquiry(2 claimants, {len(before)} statements)")
            self.assertTrue(inquiry == same)
            with trial as bound:
                self.assertIs(bound, inquiry)
                self.assertRaises(Busy, inquiry.add, TWO)
            self.assertEqual((inquiry.statements, inquiry.busy), (before, True))
            other.add(ONE)
            attempt(other, lambda one: one.add(TWO))
            places.append(place)

        inquiry.change(("add", TWO), ("add", ONE), ("drop", 0), watch=watch)
        self.assertEqual((places, inquiry.statements, inquiry.busy), ([0, 1, 2], (TWO, ONE), False))
        self.assertEqual(undone(inquiry), [(ONE, TWO, ONE), (ONE, TWO), (ONE,), ()])
        self.assertEqual(other.statements, (ONE,) * 3)

    def test_afterwards_nothing_is_busy(self):
        inquiry = with_statements(ONE)
        for deeds, watch in (
            ((("add", TWO),), None), ((("drop", 9),), None), ((None,), None), ((("add", None),), None),
            ((("add", TWO),), lambda *_: 1 // 0), ((("add", TWO), ("drop", 7)), lambda *_: None), ((), None),
        ):
            try:
                inquiry.change(*deeds, watch=watch)
            except (ArithmeticError, ValueError):
                pass
            self.assertIs(inquiry.busy, False)
            inquiry.add(THREE)
            inquiry.undo()
            with inquiry.trial():
                inquiry.drop(0)

    def test_busy_that_propagates_out_of_watch(self):
        inquiry = with_statements(ONE)
        before = state(inquiry)
        self.assertRaises(Busy, inquiry.change, ("add", TWO), watch=lambda one, _: one.add(THREE))
        self.assertEqual((state(inquiry), inquiry.busy), (before, False))


class TrialTest(unittest.TestCase):
    def test_the_block_leaves_nothing_behind(self):
        inquiry = with_statements(ONE, TWO)
        before = state(inquiry)
        with inquiry.trial() as bound:
            self.assertIs(bound, inquiry)
            inquiry.add(THREE)
            inquiry.drop(0)
            self.assertEqual(inquiry.statements, (TWO, THREE))
        self.assertEqual(state(inquiry), before)
        with inquiry.trial():
            inquiry.undo()
            inquiry.undo()
            inquiry.add(FOUR)
            inquiry.change(("add", ONE), ("add", THREE))
            self.assertEqual(inquiry.statements, (FOUR, ONE, THREE))
        self.assertEqual(state(inquiry), before)

    def test_for_whatever_reason_the_block_ends(self):
        inquiry = with_statements(ONE, TWO)
        before = state(inquiry)
        for error_class in (ValueError, NothingToUndo, Stop, KeyboardInterrupt, GeneratorExit):
            with self.assertRaises(error_class):
                with inquiry.trial():
                    inquiry.add(THREE)
                    inquiry.undo()
                    inquiry.undo()
                    raise error_class()
            self.assertEqual(state(inquiry), before)
        for _ in range(3):
            with inquiry.trial():
                inquiry.drop(0)
                break
        self.assertEqual(state(inquiry), before)

        def tried():
            with inquiry.trial():
                inquiry.drop(1)
                return inquiry.statements

        def waiting():
            with inquiry.trial():
                inquiry.drop(0)
                yield inquiry.statements

        self.assertEqual(tried(), (ONE,))
        self.assertEqual(state(inquiry), before)
        rows = waiting()
        self.assertEqual(next(rows), (TWO,))
        rows.close()
        self.assertEqual(state(inquiry), before)

    def test_one_manager_is_entered_again_and_inside_its_own_block(self):
        inquiry = with_statements(ONE)
        trial = inquiry.trial()
        inquiry.add(TWO)
        with trial:
            inquiry.add(THREE)
            first = state(inquiry)
            with trial as bound:
                self.assertIs(bound, inquiry)
                inquiry.drop(0)
                second = state(inquiry)
                with trial, inquiry.trial(), trial:
                    inquiry.undo()
                    inquiry.undo()
                self.assertEqual(state(inquiry), second)
                inquiry.drop(0)
            self.assertEqual(state(inquiry), first)
        self.assertEqual(state(inquiry), ((ONE, TWO), [(ONE,), ()], 2))
        inquiry.drop(0)
        with trial:
            inquiry.add(FOUR)
        self.assertEqual(state(inquiry), ((TWO,), [(ONE, TWO), (ONE,), ()], 2))

    def test_during_a_change(self):
        inquiry = with_statements(ONE)
        trial = inquiry.trial()

        def watch(_, place):
            with trial:
                with trial:
                    pass
            if place == 1:
                with self.assertRaises(ZeroDivisionError):
                    with trial:
                        1 // 0

        with trial:
            inquiry.change(("add", TWO), ("drop", 0), ("add", THREE), watch=watch)
            self.assertEqual(inquiry.statements, (TWO, THREE))
            self.assertEqual(undone(inquiry), [(TWO,), (ONE, TWO), (ONE,), ()])
        self.assertEqual(state(inquiry), ((ONE,), [()], 2))
        inquiry.change(("add", TWO), ("drop", 0), watch=watch)
        self.assertEqual(state(inquiry), ((TWO,), [(ONE, TWO), (ONE,), ()], 2))

    def test_a_block_that_begins_during_a_change_and_ends_behind_it(self):
        inquiry = with_statements(ONE)
        trial = inquiry.trial()

        def watch(_, place):
            if place == 0:
                trial.__enter__()

        inquiry.change(("add", TWO), ("add", THREE), watch=watch)
        inquiry.add(FOUR)
        trial.__exit__(None, None, None)
        self.assertEqual(state(inquiry), ((ONE, TWO), [(ONE,), ()], 2))
        self.assertIs(inquiry.busy, False)

    def test_a_change_that_fails_in_a_block(self):
        inquiry = with_statements(ONE)
        with inquiry.trial():
            inquiry.add(TWO)
            self.assertRaises(InvalidPlace, inquiry.change, ("add", THREE), ("drop", 7))
            self.assertEqual(state(inquiry), ((ONE, TWO), [(ONE,), ()], 2))
        self.assertEqual(state(inquiry), ((ONE,), [()], 2))

    def test_attempt(self):
        inquiry = with_statements(ONE)
        before = state(inquiry)

        def act(one):
            self.assertIs(one, inquiry)
            one.change(("add", TWO), ("drop", 0))
            return one.statements

        self.assertEqual(attempt(inquiry, act), (TWO,))
        self.assertEqual(state(inquiry), before)
        self.assertEqual(attempt(act=lambda one: (one.undo(), len(one)), inquiry=inquiry), (None, 0))
        self.assertEqual(state(inquiry), before)
        for error_class in (ValueError, Stop):
            def fail(one):
                one.add(THREE)
                raise error_class()

            self.assertRaises(error_class, attempt, inquiry, fail)
            self.assertEqual(state(inquiry), before)
        self.assertIsNone(attempt(inquiry, lambda one: attempt(one, lambda same: same.drop(0))))
        self.assertEqual(state(inquiry), before)


class ConflictsTest(unittest.TestCase):
    def test_drawn_statements(self):
        chance = random.Random(42)
        seen = set()
        for _ in range(300):
            n, statements = mixed(chance, 4, 5)
            inquiry = with_statements(*statements, claimants=n)
            expected = ()
            if not steps_model.consistent(n, steps_model.all_steps(statements)):
                expected = tuple(
                    k for k in range(len(statements))
                    if steps_model.consistent(n, steps_model.all_steps(statements[:k] + statements[k + 1:]))
                )
                seen.add(min(len(expected), 3))
            with self.subTest(n=n, statements=statements):
                self.assertEqual(inquiry.conflicts(), expected)
                self.assertEqual(inquiry.statements, statements)
        self.assertGreaterEqual(seen, {0, 1, 2})

    def test_worked_out_by_hand(self):
        up, down, alone = ("ratio", 0, 1, 2, None), ("ratio", 0, 1, None, 1), ("ratio", 0, 1, 3, 1)
        for statements, expected in (
            ((), ()), ((up,), ()), ((alone,), (0,)), ((up, down), (0, 1)), ((up, ONE, up), ()), ((up, up, down), (2,)),
            ((up, up, down, down), ()), ((alone, alone), ()), ((ONE, alone, up), (1,)), ((up, alone, down), ()),
            ((ONE,) * 11 + (alone,), (11,)), ((("unique", Rule(0), (1, 0), None), ONE), (0,)),
        ):
            with self.subTest(statements=statements):
                found = with_statements(*statements).conflicts()
                self.assertEqual((type(found), found), (tuple, expected))

    def test_a_ring_of_all_statements(self):
        for n in range(2, 7):
            ring = tuple(("ratio", k, (k + 1) % n, 1, None) for k in range(n - 1))
            for last, expected in ((("ratio", n - 1, 0, (10 ** 59 + 1, 10 ** 59), None), tuple(range(n))),
                                   (("ratio", n - 1, 0, 1, None), ())):
                with self.subTest(n=n, last=last):
                    self.assertEqual(with_statements(*ring, last, claimants=n).conflicts(), expected)


class IndependentTest(unittest.TestCase):
    def test_inquiries_do_not_touch_each_other(self):
        inquiries = [with_statements(*ALL[:k]) for k in range(5)]
        for one, other in itertools.permutations(inquiries, 2):
            before = state(other)
            with one.trial():
                one.add(ONE)
                self.assertEqual(state(other), before)
            self.assertEqual(state(other), before)


if __name__ == "__main__":
    unittest.main()
