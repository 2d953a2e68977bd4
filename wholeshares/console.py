"""A console: it answers rows of words with an inquiry."""

from wholeshares.errors import Inconsistent, InputError, InvalidRow, InvalidText, NothingToUndo, TooManyStatements
from wholeshares.inquiries import Inquiry
from wholeshares.known import consistent, ratio_bounds
from wholeshares.rules import Rule
from wholeshares.spelling import is_digits, number_text, read_number

MOST_DIGITS = 40


def _count(word):
    """Return the count that a word writes, or None, which no inquiry accepts as a count."""
    if not is_digits(word) or len(word) > MOST_DIGITS or (word[0] == "0" and word != "0"):
        return None
    return int(word)


def _number(word):
    """Return the number that a word writes; raise InvalidText."""
    number = read_number(word)
    # None would stand for no bound.
    if number is None:
        raise InvalidText(word)
    return number


def _add_division(inquiry, words):
    word, counts, text = words
    division = tuple([_count(part) for part in counts.split(",")])
    inquiry.add((word, Rule.read(text), division, None))
    return "ok"


def _add_most(inquiry, words):
    _, i, j, number = words
    inquiry.add(("ratio", _count(i), _count(j), None, _number(number)))
    return "ok"


def _add_least(inquiry, words):
    _, i, j, number = words
    inquiry.add(("ratio", _count(i), _count(j), _number(number), None))
    return "ok"


def _drop(inquiry, words):
    inquiry.drop(_count(words[1]))
    return "ok"


def _undo(inquiry, words):
    try:
        inquiry.undo()
    except NothingToUndo:
        return "nothing"
    return "ok"


def _check(inquiry, words):
    return "consistent" if consistent(inquiry.claimants, inquiry.statements) else "conflict"


def _bounds(inquiry, words):
    _, i, j = words
    try:
        low, _, high, _ = ratio_bounds(inquiry.claimants, inquiry.statements, _count(i), _count(j))
    except Inconsistent:
        return "conflict"
    high_text = "-" if high is None else number_text(high)
    return f"{number_text(low)} {high_text}"


# For each first word how many words there are, the text of a rule counted as one, and what answers them.
ANSWERS = {
    "fair": (3, _add_division),
    "unique": (3, _add_division),
    "most": (4, _add_most),
    "least": (4, _add_least),
    "drop": (2, _drop),
    "undo": (1, _undo),
    "check": (1, _check),
    "bounds": (3, _bounds),
}


class Console:
    """Answers rows about the claims of a number of claimants."""

    def __init__(self, claimants):
        self._inquiry = Inquiry(claimants)

    def say(self, row):
        """Return the answer to a row."""
        first = row.split(" ")[0] if isinstance(row, str) else None
        if first not in ANSWERS:
            raise InvalidRow(row)
        many, answer = ANSWERS[first]
        # Whatever stands too much remains in the last word, which is refused then.
        words = row.split(" ", many - 1)
        if len(words) != many or words[0] != first:
            raise InvalidRow(row)
        try:
            return answer(self._inquiry, words)
        except (InputError, TooManyStatements):
            raise InvalidRow(row) from None
