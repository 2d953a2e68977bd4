"""wholeshares.rules: the texts of rules."""

import re
import unittest
from fractions import Fraction

from tests.samples import LONG, NO_NUMBERS, RULES, refusal
from wholeshares.errors import InvalidText
from wholeshares.rules import Rule

NUMBER = re.compile("(0|[1-9][0-9]*)(?:/([1-9][0-9]*))?", re.ASCII)
CHARACTERS = "0123456789 /|-+.,_eRule()\n\t\r\x00\u00b2\u0663\u00a0\uff11"


def fraction_of(word):
    """Return the number that is spelled like this, or None."""
    match = NUMBER.fullmatch(word)
    if match is None:
        return None
    number = Fraction(int(match[1]), int(match[2] or 1))
    return number if str(number) == word else None


def is_text(text):
    """Return True if the document takes this for the text of a rule."""
    head, bar, offset = (" " + text).rpartition(" | ")
    numbers = [fraction_of(word) for word in head.split(" ")[1:] + [offset]]
    if not bar or None in numbers or numbers[-1] > 1 or len(numbers) > 9:
        return False
    marks = numbers[:-1]
    ascending = all(mark < after for mark, after in zip(marks, marks[1:]))
    return ascending and (not marks or marks[-1] < len(marks) + numbers[-1])


class WritingTest(unittest.TestCase):
    def test_str_and_repr(self):
        for arguments, _, _, text in RULES:
            with self.subTest(text):
                rule = Rule(*arguments)
                self.assertEqual([str(rule), repr(rule)], [text, f"Rule({text})"])

    def test_a_longer_head_is_written_although_the_rules_are_equal(self):
        self.assertEqual([str(Rule((1, 2))), str(Rule((1, 2), (1, 2)))], ["| 1/2", "1/2 | 1/2"])


class ReadingTest(unittest.TestCase):
    def test_every_text_of_a_rule(self):
        for arguments, offset, head, text in RULES:
            for rule in (Rule.read(text), Rule.read(text=text), Rule(0).read(text), Rule.read(str(Rule(*arguments)))):
                with self.subTest(text):
                    self.assertIs(type(rule), Rule)
                    self.assertEqual((rule.offset, rule.head, str(rule)), (offset, head, text))
                    self.assertEqual(rule, Rule(*arguments))

    def test_texts_of_all_small_rules(self):
        fractions = sorted({Fraction(p, q) for q in (1, 2, 3) for p in range(3 * q + 1)})
        heads = [()] + [(a,) for a in fractions] + [(a, b) for a in fractions for b in fractions]
        read = 0
        for offset in fractions:
            for head in heads:
                text = " ".join([str(number) for number in head] + ["|", str(offset)])
                with self.subTest(text):
                    if is_text(text):
                        rule = Rule.read(text)
                        self.assertEqual(str(rule), text)
                        self.assertEqual(Fraction(*rule.offset), offset)
                        self.assertEqual(tuple(Fraction(*mark) for mark in rule.head), head)
                        read += 1
                    else:
                        with refusal(self, InvalidText, text):
                            Rule.read(text)
        self.assertGreater(read, 100)

    def test_numbers_longer_than_python_turns_at_once(self):
        for digits in (59, 60, 61, 119, 120, 121, 600, 4300, 4301, 9001):
            bottom = 10 ** digits
            with self.subTest(digits):
                rule = Rule((1, bottom), (bottom - 1, bottom))
                self.assertEqual(str(rule), f"{'9' * digits}/1{'0' * digits} | 1/1{'0' * digits}")
                self.assertEqual(repr(rule), f"Rule({rule})")
                self.assertEqual(Rule.read(str(rule)).head, ((bottom - 1, bottom),))
                self.assertEqual(Rule.read(str(rule)).offset, (1, bottom))


class RefusedTextTest(unittest.TestCase):
    def test_what_is_no_string(self):
        for value in NO_NUMBERS + (0, 1, (1, 2), b"| 1", ["|", "1"], ("| 1",), Rule(1), Rule):
            if not isinstance(value, str):
                with self.subTest(type(value)):
                    with refusal(self, InvalidText, value):
                        Rule.read(value)
                    with refusal(self, InvalidText, value):
                        Rule.read(text=value)

    def test_what_is_spelled_otherwise(self):
        texts = (
            # not in lowest terms, a denominator of 1 or 0, signs, leading zeros
            "| 2/4", "2/4 | 1", "| 0/2", "| 3/3", "| 1/1", "| 0/1", "0/1 | 1", "1/1 | 1", "| 1/0", "| 0/0", "1/0 | 1",
            "| +1", "| -0", "| -1", "| -1/2", "-1 | 1", "-1/2 | 1", "| 1/-2", "| +1/2", "| 1/+2", "+0 | 1", "-0 | 1",
            "| 01", "| 00", "| 01/2", "| 1/02", "00 | 1", "01 | 1", "| 001/2",
            # blanks too many, too few or elsewhere
            "", " ", "  ", "|", "| ", " |", "|  ", "|1", "0| 1", "0 |1", "0|1", "0  | 1", "0 |  1", " 0 | 1", "0 | 1 ",
            " | 1", "| 1 ", "|  1", "| 1  ", "| 1/ 2", "| 1 /2", "| 1 / 2", "0 1| 1", "0  1 | 1", "01 | 1 1", "| 1 0",
            "\t| 1", "|\t1", "| 1\n", "\n| 1", "|\n1", "0\t1 | 1", "0\n1 | 1", "| 1\r", "| 1\x00", "|\u00a01",
            # other characters, bars and slashes
            "1", "1/2", "0 1", "0 1 1", "| |", "| | 1", "|| 1", "0 | 1 | 1", "| 1 |", "/ 1", "| /", "| 1/", "| /2",
            "| 1//2", "| 1/2/3", "| 1/2/", "| 0.5", "| .5", "| 1.", "| 1e0", "| 1_0", "| 0x1", "| 0b1", "| a", "| x1",
            "| 1,", "0, | 1", "0,1 | 1", "| 1/2_0", "(| 1)", "Rule(| 1)", "'| 1'", "| (1, 2)", "| None", "| True",
            "| \u00b9", "| \u0661", "| \uff11", "| \u00bd", "| 1/\u0662", "\u0660 | 1", "\u2223 1", "| 1\u0300",
            "| \ud800", "\ud83d\ude00",
            # marks that do not ascend, more than 8 numbers, an offset above 1, a last number too large
            "0 0 | 1", "1 1 | 1", "1 0 | 1", "1/2 1/2 | 1", "1/2 1/3 | 1", "0 1/2 1/3 | 1", "2 3/2 | 1",
            "0 1 2 3 4 5 6 7 8 | 1", "0 1 2 3 4 5 6 7 8 9 | 1", "| 2", "| 3/2", "| 1000000", "0 | 2", f"| {LONG}",
            "1 | 0", "2 | 1", "3/2 | 1/2", "2 | 0", "9 | 1", "0 2 | 0", "0 3 | 1", "0 5/2 | 1/2",
            "1 2 3 4 5 6 7 9 | 1", "0 1 2 3 4 5 6 8 | 0", f"{LONG} | 1", f"| {LONG}/{LONG - 1}",
            # long ones
            "| " + "1" * 1998, "0 " * 998 + "| 1", " " * 2000, "|" * 2000, "| " * 1000, "/" * 2000, "| 1" + "/1" * 998,
        )
        for text in texts:
            with self.subTest(text), refusal(self, InvalidText, text):
                Rule.read(text)

    def test_every_text_that_differs_in_one_character(self):
        texts = ("| 0", "| 1", "| 1/2", "7/10 | 1/2", "0 1 | 1", "0 1/2 2 | 3/4", "1 2 3 4 5 6 7 8 | 1", "11/12 | 10/21")
        refused = accepted = 0
        for text in texts:
            cut = [text[:at] + text[at + 1:] for at in range(len(text))]
            put = [text[:at] + new + text[at:] for at in range(len(text) + 1) for new in CHARACTERS]
            changed = [text[:at] + new + text[at + 1:] for at in range(len(text)) for new in CHARACTERS]
            for other in cut + put + changed:
                with self.subTest(other):
                    if is_text(other):
                        accepted += 1
                        self.assertEqual(str(Rule.read(other)), other)
                    else:
                        refused += 1
                        with refusal(self, InvalidText, other):
                            Rule.read(other)
        self.assertGreater(min(accepted, refused), 100)


if __name__ == "__main__":
    unittest.main()
