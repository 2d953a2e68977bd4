"""Inquiries: statements that are added and dropped one by one."""

from wholeshares.checks import check_claimants
from wholeshares.errors import Busy, InvalidDeeds, InvalidPlace, NotAnInquiry, NothingToUndo, TooManyStatements
from wholeshares.forms import is_place, is_tuple_of, is_word
from wholeshares.knowledge import Knowledge
from wholeshares.limits import MOST_STATEMENTS
from wholeshares.statements import check_statement, steps_in


class Moment:
    """What an inquiry was when a block of a trial began; `outer` is the same of the block around it, or None."""

    def __init__(self, inquiry, outer):
        self.statements = inquiry.statements
        self.past = inquiry.past
        self.outer = outer


class Trial:
    """A context manager that leaves the inquiry as it was when the block began."""

    def __init__(self, inquiry):
        self.inquiry = inquiry
        self.moment = None

    def __enter__(self):
        self.moment = Moment(self.inquiry, self.moment)
        return self.inquiry

    def __exit__(self, kind, value, trace):
        self.inquiry.statements = self.moment.statements
        self.inquiry.past = self.moment.past
        self.moment = self.moment.outer


class Inquiry:
    """Statements about the claims of a number of claimants."""

    def __init__(self, claimants):
        check_claimants(claimants)
        self.claimants = claimants
        self.statements = ()
        self.busy = False
        # The changes that can be reversed: None, or the statements before the last one and what was `past` then.
        # Both are never modified, only replaced, so it is enough to remember them to return to a moment.
        self.past = None

    def _check_idle(self):
        if self.busy:
            raise Busy()

    def _replace(self, statements):
        self.past = (self.statements, self.past)
        self.statements = statements

    def _add(self, statement):
        check_statement(statement, self.claimants)
        if len(self.statements) == MOST_STATEMENTS:
            raise TooManyStatements(MOST_STATEMENTS)
        self._replace((*self.statements, statement))

    def _drop(self, place):
        if not is_place(place, len(self.statements)):
            raise InvalidPlace(place)
        self._replace(self.statements[:place] + self.statements[place + 1:])

    def add(self, statement):
        """Append a statement."""
        self._check_idle()
        self._add(statement)

    def drop(self, place):
        """Remove the statement at a place."""
        self._check_idle()
        self._drop(place)

    def change(self, *deeds, watch=None):
        """Do several deeds, or none of them; call `watch` after each."""
        self._check_idle()
        for index, deed in enumerate(deeds):
            if not is_tuple_of(deed, 2) or not is_word(deed[0], ("add", "drop")):
                raise InvalidDeeds(index)
        statements, past = self.statements, self.past
        self.busy = True
        try:
            for place, (word, subject) in enumerate(deeds):
                if word == "add":
                    self._add(subject)
                else:
                    self._drop(subject)
                if watch is not None:
                    watch(self, place)
            statements, past = self.statements, self.past
        finally:
            self.statements, self.past = statements, past
            self.busy = False

    def undo(self):
        """Reverse the last standing change."""
        self._check_idle()
        if self.past is None:
            raise NothingToUndo()
        self.statements, self.past = self.past

    def trial(self):
        """Return a context manager in whose blocks changes are only tried."""
        self._check_idle()
        return Trial(self)

    def conflicts(self):
        """Return the places of the statements without which, one at a time, the others are consistent."""
        rows = [steps_in(statement) for statement in self.statements]
        if Knowledge(self.claimants, rows).ring is None:
            return ()
        places = []
        for place in range(len(rows)):
            if Knowledge(self.claimants, rows[:place] + rows[place + 1:]).ring is None:
                places.append(place)
        return tuple(places)

    def __len__(self):
        return len(self.statements)

    def __repr__(self):
        return f"Inquiry({self.claimants} claimants, {len(self.statements)} statements)"


def attempt(inquiry, act):
    """Return what act(inquiry) returns; the inquiry is as before then."""
    if not isinstance(inquiry, Inquiry):
        raise NotAnInquiry(inquiry)
    with inquiry.trial() as tried:
        return act(tried)
