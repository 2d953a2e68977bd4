"""wholeshares.console."""

import random
import unittest

from tests import drawn
from tests.model import LONG_RULE, MANY_RULES
from tests.samples import LONG, NO_COUNTS, EqualToAll, Plain, Unequal, refusal
from tests.statement_samples import small_claims, true_statements
from tests.wrong_values import HALF, no_claimants
from wholeshares.console import Console
from wholeshares.errors import Inconsistent, InvalidClaimants, InvalidRow
from wholeshares.inquiries import Inquiry
from wholeshares.known import consistent, ratio_bounds
from wholeshares.rules import Rule

ROWS = ("fair 2,1 | 1", "unique 1,1 7/10 | 1/2", "most 0 1 3/2", "least 1 0 1/7", "drop 0", "undo", "check", "bounds 0 1")


def text(pair):
    return str(pair[0]) if pair[1] == 1 else f"{pair[0]}/{pair[1]}"


def answers(console, claimants=2):
    """Return what a console tells about itself, and leave it as it is."""
    pairs = [(i, j) for i in range(claimants) for j in range(claimants) if i != j]
    return [console.say("check")] + [console.say(f"bounds {i} {j}") for i, j in pairs]


def said(*rows, claimants=2):
    console = Console(claimants)
    return console, [console.say(row) for row in rows]


class AnswersTest(unittest.TestCase):
    def test_worked_out_by_hand(self):
        for claimants, rows, expected in (
            (2, ("check", "undo", "bounds 0 1", "bounds 1 0"), ("consistent", "nothing", "0 -", "0 -")),
            (2, ("fair 2,1 | 1", "bounds 0 1", "bounds 1 0"), ("ok", "1 3", "1/3 1")),
            (2, ("most 0 1 3/2", "bounds 0 1", "bounds 1 0"), ("ok", "0 3/2", "2/3 -")),
            (2, ("least 0 1 3/2", "bounds 0 1", "check"), ("ok", "3/2 -", "consistent")),
            (2, ("least 0 1 2", "most 0 1 1", "check", "bounds 0 1", "bounds 1 0", "undo", "check"),
             ("ok", "ok", "conflict", "conflict", "conflict", "ok", "consistent")),
            (3, ("fair 4,2,1 7/10 | 1/2", "most 0 2 4", "bounds 0 2"), ("ok", "ok", "7/3 4")),
            (2, ("fair 1,1 | 1", "fair 2,0 | 1", "drop 0", "bounds 0 1", "undo", "bounds 0 1", "undo", "undo", "undo"),
             ("ok", "ok", "ok", "2 -", "ok", "2 2", "ok", "ok", "nothing")),
            (2, ("unique 1,0 | 0", "check", "drop 0", "fair 1,0 | 0", "check"), ("ok", "conflict", "ok", "ok", "consistent")),
            (2, ("unique 2,1 | 1", "most 1 0 1/3", "check"), ("ok", "ok", "conflict")),
            (2, ("fair 2,1 | 1", "most 1 0 1/3", "check", "bounds 0 1"), ("ok", "ok", "consistent", "3 3")),
            (6, ("most 5 4 10", "bounds 5 4", "fair 0,0,0,0,0,0 | 1/2", "bounds 0 5"), ("ok", "0 10", "ok", "0 -")),
        ):
            with self.subTest(rows=rows):
                _, found = said(*rows, claimants=claimants)
                self.assertEqual(tuple(found), expected)
                console = Console(claimants=claimants)
                self.assertEqual(tuple(console.say(row=row) for row in rows), expected)

    def test_it_answers_as_an_inquiry_does(self):
        chance = random.Random(81)
        for _ in range(60):
            n = chance.randint(2, 4)
            console, inquiry = Console(n), Inquiry(n)
            for statement in true_statements(chance, small_claims(chance, n), 9):
                if statement[0] == "ratio":
                    _, i, j, low, high = statement
                    rows = [("most", high), ("least", low)]
                    for word, bound in rows:
                        if bound is not None:
                            self.assertEqual(console.say(f"{word} {i} {j} {text(bound)}"), "ok")
                            inquiry.add(("ratio", i, j, *((None, bound) if word == "most" else (bound, None))))
                else:
                    word = chance.choice(("fair", "unique"))
                    counts = ",".join(str(count) for count in statement[2])
                    self.assertEqual(console.say(f"{word} {counts} {statement[1]}"), "ok")
                    inquiry.add((word, statement[1], statement[2], None))
                kind = chance.randrange(4)
                if kind == 0:
                    place = chance.randrange(len(inquiry)) if inquiry else 0
                    if inquiry:
                        self.assertEqual(console.say(f"drop {place}"), "ok")
                        inquiry.drop(place)
                elif kind == 1:
                    self.assertEqual(console.say("undo"), "ok" if inquiry.past else "nothing")
                    if inquiry.past:
                        inquiry.undo()
                if len(inquiry) > 10:
                    break
                self.compare(console, inquiry)

    def compare(self, console, inquiry):
        n, statements = inquiry.claimants, inquiry.statements
        told = "consistent" if consistent(n, statements) else "conflict"
        self.assertEqual(console.say("check"), told)
        for i in range(n):
            for j in range(n):
                if i == j:
                    continue
                try:
                    low, _, high, _ = ratio_bounds(n, statements, i, j)
                    expected = f"{text(low)} {'-' if high is None else text(high)}"
                except Inconsistent:
                    expected = "conflict"
                self.assertEqual(console.say(f"bounds {i} {j}"), expected)

    def test_every_rule(self):
        for rule in MANY_RULES + (LONG_RULE,):
            inquiry = Inquiry(3)
            inquiry.add(("fair", rule, (3, 2, 1), None))
            console, found = said(f"fair 3,2,1 {rule}", claimants=3)
            self.assertEqual(found, ["ok"])
            with self.subTest(str(rule)):
                self.compare(console, inquiry)

    def test_long_numbers(self):
        long = "9" * 40
        console, found = said(f"fair {long},{long} | 1", "bounds 0 1")
        self.assertEqual(found, ["ok", f"{long}/1{'0' * 40} 1{'0' * 40}/{long}"])
        top, bottom = 10 ** 900 + 1, 10 ** 900 + 2
        console, found = said(f"most 0 1 {top}/{bottom}", f"least 0 1 {'7' * 1900}", "check", "undo", "bounds 0 1")
        self.assertEqual(found, ["ok", "ok", "conflict", "ok", f"0 {top}/{bottom}"])


class RefusedTest(unittest.TestCase):
    def refused(self, console, value):
        with refusal(self, InvalidRow, value):
            console.say(value)

    def test_claimants(self):
        for value in no_claimants(6):
            with self.subTest(type(value)), refusal(self, InvalidClaimants, value):
                Console(value)

    def test_what_is_no_string(self):
        console = Console(2)
        for value in NO_COUNTS + (0, 1, LONG, HALF, b"check", b"undo", ("check",), ["undo"], Plain(), EqualToAll(), Unequal()):
            with self.subTest(type(value)):
                self.refused(console, value)

    def test_rows_that_are_nearly_right(self):
        long = "1" * 40
        wrong = [
            "", " ", "ok", "help", "Check", "CHECK", "check ", " check", "check 0", "check\n", "undo ", "undo 1", "undo\n",
            "drop", "drop ", "drop  0", "drop 00", "drop 01", "drop +0", "drop -0", "drop -1", "drop 0 ", "drop 0 0",
            "drop x", "drop 0.0", "drop 1_0", "drop 3", f"drop {long}", f"drop {long}1", "drop 0/1", "drop \u0660", "drop \u00b2",
            "fair", "fair ", "fair 2,1", "fair 2,1 ", "fair 2,1 |", "fair 2,1 | ", "fair 2,1 | 2", "fair 2,1 |1",
            "fair 2,1  | 1", "fair 2,1 | 1 ", "fair  2,1 | 1", " fair 2,1 | 1", "fair 2 | 1", "fair 2,1,0 | 1", "fair 2, | 1",
            "fair ,2,1 | 1", "fair 2,,1 | 1", "fair 2, 1 | 1", "fair 02,1 | 1", "fair 2,-1 | 1", "fair 2,+1 | 1",
            "fair 2;1 | 1", "fair 2,1.0 | 1", "fair 2,1 1/2", "fair 2,1 1/2 | 2/4", "fair 2,1 1 1 | 1", "fair 2,1 2 | 1",
            "fair 2,1 Rule(| 1)", "fair | 1", "fair 2 1 | 1", "fair 2,1 | 1 | 1", "fair 2,1\t| 1", "fair 2,1 | 1\n",
            f"fair {long}1,1 | 1", f"fair 0,{long}0 | 1", "fair 2,\u0661 | 1", "FAIR 2,1 | 1", "fairs 2,1 | 1",
            "unique 2,1", "unique 2,1 1", "unique 2,1,1 | 1", "unique 02,1 | 1", "unique 2,1 0 0 | 1", "Unique 2,1 | 1",
            "most", "most 0", "most 0 1", "most 0 1 ", "most 0 1 0", "most 0 1 -1", "most 0 1 2/4", "most 0 1 4/2",
            "most 0 1 1/0", "most 0 1 1/1", "most 0 1 01", "most 0 1 1 2", "most 0 0 1", "most 1 1 1", "most 0 2 1",
            "most 2 0 1", "most 00 1 1", "most 0 01 1", "most -0 1 1", "most 0  1 1", "most 0 1  1", "most 0,1 1", "most 0 1 -",
            "most 0 1 1.5", "most 0 1 1/2/3", "most 0 1 None", "most x 1 1", f"most 0 {long}1 1", f"most {long} 0 1",
            "most 0 1 (1, 2)", "most 0 1 3/", "most 0 1 /3", "most 0 1 \u0663", "most 0 1 0/1",
            "least", "least 0 1", "least 0 1 0", "least 0 0 1", "least 0 2 1", "least 0 1 2/4", "least 0 1 -", "least 0 1 1 1",
            "least 0 1 ", "least  0 1 1", "Least 0 1 1",
            "bounds", "bounds 0", "bounds 0 1 ", "bounds 0 1 1", "bounds 0 0", "bounds 1 1", "bounds 0 2", "bounds 2 1",
            "bounds 00 1", "bounds 0 01", "bounds  0 1", "bounds 0  1", "bounds -1 0", "bounds 0,1", "bounds x y", "bounds ",
            "Bounds 0 1", f"bounds 0 {long}", f"bounds {long}0 1",
        ]
        for rows in ((), ("fair 2,1 | 1", "most 0 1 3/2", "least 0 1 1"), ("least 0 1 2", "most 0 1 1", "undo", "most 0 1 1")):
            console, _ = said(*rows)
            before = answers(console)
            for row in wrong:
                with self.subTest(rows=rows, row=row):
                    self.refused(console, row)
            self.assertEqual(answers(console), before)
            # Nothing of all this can be undone.
            undone = 0
            while console.say("undo") == "ok":
                undone += 1
            self.assertEqual(undone, sum(row != "undo" for row in rows) - sum(row == "undo" for row in rows))

    def test_right_rows_bent_at_one_place(self):
        chance = random.Random(82)
        signs = " ,|/0123456789-+xX\n\tfairuniqemostleadrpchkb"
        refused = 0
        for row in ROWS:
            for place in range(len(row) + 1):
                for _ in range(12):
                    sign = chance.choice(signs)
                    kind = chance.randrange(3)
                    bent = row[:place] + (sign if kind < 2 else "") + row[place + (kind > 0):]
                    console, _ = said("fair 1,1 | 1")
                    try:
                        answer = console.say(bent)
                    except InvalidRow as error:
                        self.assertIs(error.value, bent)
                        self.assertEqual(answers(console), ["consistent", "1/2 2", "1/2 2"])
                        refused += 1
                        continue
                    with self.subTest(bent=bent):
                        self.assertTrue(self.is_row(bent))
                        self.assertIn(answer, ("ok", "consistent", "conflict", "1/2 2"))
        self.assertGreater(refused, 700)

    def is_row(self, row):
        """Return True if a row about two claimants has the right form, for short numbers, by comparing it with its parts."""
        words = row.split(" ")
        if row in ("undo", "check", "drop 0") or (words[0] == "bounds" and words[1:] in (["0", "1"], ["1", "0"])):
            return True
        if words[0] in ("fair", "unique"):
            counts = words[1].split(",")
            return len(counts) == 2 and all(str(int(count)) == count for count in counts) and str(
                Rule.read(" ".join(words[2:]))) == " ".join(words[2:])
        if words[0] not in ("most", "least") or words[1:3] not in (["0", "1"], ["1", "0"]) or len(words) != 4:
            return False
        top, _, bottom = words[3].partition("/")
        return text(drawn.pair(drawn.Fraction(int(top), int(bottom or 1)))) == words[3]

    def test_counts_of_40_and_of_41_digits(self):
        for digits, accepted in ((1, True), (39, True), (40, True), (41, False), (60, False), (1900, False)):
            count = "1" * digits
            console = Console(2)
            for row in (f"fair {count},1 | 1", f"unique 1,{count} | 1/2"):
                with self.subTest(row=row):
                    if accepted:
                        self.assertEqual(console.say(row), "ok")
                    else:
                        self.refused(console, row)
            self.assertEqual(console.say("undo"), "ok" if accepted else "nothing")

    def test_a_thirteenth_statement(self):
        console, found = said(*["least 0 1 2"] * 12)
        self.assertEqual(found, ["ok"] * 12)
        for row in ("least 0 1 2", "most 0 1 1", "fair 1,1 | 1", "unique 2,1 | 1"):
            self.refused(console, row)
            self.assertEqual(answers(console), ["consistent", "2 -", "0 1/2"])
        self.assertEqual([console.say("drop 11"), console.say("most 0 1 1"), console.say("check")], ["ok", "ok", "conflict"])
        self.refused(console, "fair 1,1 | 1")
        for _ in range(14):
            self.assertEqual(console.say("undo"), "ok")
        self.assertEqual(console.say("undo"), "nothing")

    def test_places(self):
        console = Console(3)
        self.refused(console, "drop 0")
        console.say("least 0 1 2")
        self.refused(console, "drop 1")
        self.assertEqual(console.say("drop 0"), "ok")
        self.refused(console, "drop 0")

    def test_consoles_do_not_touch_each_other(self):
        console, other = Console(2), Console(2)
        console.say("least 0 1 2")
        self.assertEqual((other.say("bounds 0 1"), other.say("undo")), ("0 -", "nothing"))


if __name__ == "__main__":
    unittest.main()
