"""Rounding rules."""

from wholeshares.errors import InputError, InvalidCount, InvalidHead, InvalidOffset, InvalidText
from wholeshares.limits import MOST_HEAD
from wholeshares.numeric import common_bottom, is_count, is_less, is_number, lowest
from wholeshares.spelling import number_text, read_number


def _is_offset(value):
    if not is_number(value):
        return False
    top, bottom = lowest(value)
    return 0 <= top <= bottom


def _plain_mark(offset, number):
    """Return the mark with this number where the offset alone decides."""
    return (offset[0] + number * offset[1], offset[1])


def _is_next_mark(element, marks):
    """Return True if the element may follow these first marks of a head."""
    if not is_number(element):
        return False
    mark = lowest(element)
    return is_less(marks[-1], mark) if marks else mark[0] >= 0


def _lowest_head(offset, head):
    """Return the head as pairs in lowest terms; raise InvalidHead."""
    if len(head) > MOST_HEAD:
        raise InvalidHead(None)
    marks = []
    for index, element in enumerate(head):
        if not _is_next_mark(element, marks):
            raise InvalidHead(index)
        marks.append(lowest(element))
    if marks and not is_less(marks[-1], _plain_mark(offset, len(marks))):
        raise InvalidHead(len(marks) - 1)
    return tuple(marks)


class Rule:
    """A row of marks: those of the head, then k + offset for each further number k."""

    def __init__(self, offset, *head):
        if not _is_offset(offset):
            raise InvalidOffset(offset)
        self.offset = lowest(offset)
        self.head = _lowest_head(self.offset, head)
        # All marks are multiples of 1 / unit, so marks times the unit can be compared as integers.
        self.unit = common_bottom([self.offset, *self.head])
        self._whole_head = [top * (self.unit // bottom) for top, bottom in self.head]
        self.whole_offset = self.offset[0] * (self.unit // self.offset[1])
        # No head reaches further, so rules with this start and this offset have all marks in common.
        self._start = tuple([self.mark(number) for number in range(MOST_HEAD)])

    @staticmethod
    def read(text):
        """Return the rule with this text."""
        if not isinstance(text, str):
            raise InvalidText(text)
        words = text.split(" ")
        if len(words) < 2 or words[-2] != "|":
            raise InvalidText(text)
        offset = read_number(words[-1])
        head = [read_number(word) for word in words[:-2]]
        try:
            # A word that is no number was read as None, which no rule accepts.
            return Rule(offset, *head)
        except InputError:
            raise InvalidText(text) from None

    def mark(self, number):
        """Return the mark with this number."""
        if not is_count(number):
            raise InvalidCount(number)
        if number < len(self.head):
            return self.head[number]
        return _plain_mark(self.offset, number)

    def whole_mark(self, number):
        """Return the mark with this number, a count, times the unit of the rule: an integer."""
        if number < len(self._whole_head):
            return self._whole_head[number]
        return self.whole_offset + number * self.unit

    def __eq__(self, other):
        return isinstance(other, Rule) and self.offset == other.offset and self._start == other._start

    def __str__(self):
        words = [number_text(mark) for mark in self.head]
        return " ".join([*words, "|", number_text(self.offset)])

    def __repr__(self):
        return f"Rule({self})"
