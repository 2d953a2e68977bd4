"""wholeshares.parts: least_possible, least_sure and widest."""

import itertools
import random
import time
import unittest
from fractions import Fraction

from tests import drawn, steps_model
from tests.model import FEW_RULES, LONG_RULE, MANY_RULES, divisions, fair, mark, number
from wholeshares.comparing import first_difference, first_unkind, most_apart, same_divisions
from wholeshares.divisions import fair_divisions
from wholeshares.parts import least_possible, least_sure, widest
from wholeshares.rules import Rule

MOST = 10 ** 18
HALF = Rule((1, 2))
EARLY = Rule(1, *[(k, 10 ** 9) for k in range(8)])
LATE = Rule(1, *[(81 + k, 10) for k in range(8)])
RULES = FEW_RULES + (
    Rule((1, 3)), Rule(0, (3, 2), (7, 4)), Rule(1, (1, 2)), Rule(0, 0, (1, 9), (5, 2)), EARLY, LATE, LONG_RULE,
)


def parts_by_division(rule, claimants, items):
    """Return, for each division that is fair for some claims, the bounds of the part of claimant 0 by its steps."""
    found = []
    for division in divisions(claimants, items):
        steps = steps_model.steps(("fair", rule, division, None))
        if steps_model.consistent(claimants, steps):
            found.append((division, steps_model.part_bounds(claimants, steps, 0)))
    return found


def by_division(rule, claimants, items, counts):
    """Return least_possible and least_sure for each count, and widest, from the parts of all divisions."""
    parts = parts_by_division(rule, claimants, items)
    possible, sure = [], []
    for count in counts:
        lows = [(low, not reached) for division, (low, reached, _, _) in parts if division[0] >= count]
        highs = [(high, reached) for division, (_, _, high, reached) in parts if division[0] < count]
        possible.append((min(lows)[0], not min(lows)[1]) if lows else None)
        most, reached = max(highs, default=(0, True))
        sure.append((most, not reached) if most < 1 else None)
    excesses = [(division[0] - low * items, reached) for division, (low, reached, _, _) in parts]
    lacks = [(high * items - division[0], reached) for division, (_, _, high, reached) in parts]
    if items == 0:
        # Without items nothing depends on the parts, so what cannot be reached does not matter.
        return possible, sure, ((0, True), (0, True))
    return possible, sure, (max(excesses), max(lacks))


def in_fractions(result):
    return None if result is None else (number(result[0]), result[1])


class FewItemsTest(unittest.TestCase):
    def check(self, rule, claimants, items):
        counts = range(items + 3)
        possible, sure, both = by_division(rule, claimants, items, counts)
        with self.subTest(rule=str(rule), claimants=claimants, items=items):
            self.assertEqual([in_fractions(least_possible(rule, claimants, items, k)) for k in counts], possible)
            self.assertEqual([in_fractions(least_sure(rule, claimants, items, k)) for k in counts], sure)
            self.assertEqual(tuple(in_fractions(one) for one in widest(rule, claimants, items)), both)

    def test_two_claimants(self):
        for rule in RULES + MANY_RULES:
            for items in (0, 1, 2, 3, 4, 7, 12):
                self.check(rule, 2, items)

    def test_where_heads_end(self):
        for rule in (EARLY, LATE, LONG_RULE, Rule(1, 0, 1, 2, 3, 4, 5, 6, 7), Rule((1, 2), 0, (3, 2), (7, 3))):
            for items in (8, 9, 10, 16, 17, 18, 19, 27):
                self.check(rule, 2, items)

    def test_three_claimants(self):
        for rule in RULES:
            for items in (0, 1, 2, 3, 4, 6):
                self.check(rule, 3, items)

    def test_four_claimants(self):
        for rule in RULES:
            for items in (0, 3, 4, 5):
                self.check(rule, 4, items)

    def test_drawn_rules(self):
        chance = random.Random(3)
        for _ in range(120):
            rule = drawn.rule(chance)
            self.check(rule, 2, chance.randint(0, 20))
            self.check(rule, 3, chance.randint(0, 7))


class ManyClaimantsTest(unittest.TestCase):
    """Up to 12 claimants, by the splits of the items that claimant 0 leaves."""

    def check(self, rule, claimants, items, count):
        others = claimants - 1
        marks = [mark(rule, k) for k in range(items + 2)]
        first = 1 if marks[0] == 0 else 0
        possible = [
            sum(marks[k] for k in split) for split in divisions(others, items - count) if min(split) >= first
        ] if count <= items else []
        expected = None
        if possible:
            last = marks[count - 1]
            expected = (last / (last + max(possible)), True)
        with self.subTest(rule=str(rule), claimants=claimants, items=items, count=count):
            self.assertEqual(in_fractions(least_possible(rule, claimants, items, count)), expected)

    def test_least_possible_with_2_items_or_more(self):
        for rule in RULES:
            for claimants, items in ((5, 8), (6, 9), (6, 4), (12, 5), (12, 15)):
                for count in {2, 3, items - 2, items, items + 1}:
                    if items - count <= 5 or claimants < 7:
                        self.check(rule, claimants, items, count)

    def test_least_sure(self):
        for rule in RULES:
            for claimants, items in ((5, 8), (6, 9), (12, 5), (12, 15)):
                others = claimants - 1
                marks = [mark(rule, k) for k in range(items + 2)]
                first = 1 if marks[0] == 0 else 0
                for fewer in {1, 2, items - 2, items - 4}:
                    left = items - fewer
                    if left > 5 and claimants > 6 and (first == 0 or left > others + 4):
                        continue
                    least = None
                    for split in divisions(others, left - first * others) if left >= first * others else ():
                        lasts = [marks[k + first - 1] if k + first > 0 else Fraction(0) for k in split]
                        key = (sum(lasts), 0 in lasts)
                        least = key if least is None else min(least, key)
                    with self.subTest(rule=str(rule), claimants=claimants, items=items, fewer=fewer):
                        found = in_fractions(least_sure(rule, claimants, items, fewer + 1))
                        if least is None or least[0] == 0:
                            self.assertIsNone(found)
                        else:
                            part = marks[fewer] / (marks[fewer] + least[0])
                            self.assertEqual(found, (part, least[1]))


class ClaimsTest(unittest.TestCase):
    """The bounds against fair divisions of claims that are tried one by one."""

    def test_no_claims_break_them(self):
        chance = random.Random(4)
        for _ in range(600):
            rule, claimants = drawn.rule(chance), chance.randint(2, 6)
            claims, items = drawn.claims(chance, claimants), drawn.items(chance)
            c = [number(claim) for claim in claims]
            part = c[0] / sum(c)
            division = chance.choice(fair_divisions(rule, claims, items))
            count = division[0]
            with self.subTest(rule=str(rule), claims=claims, items=items):
                low, reached = in_fractions(least_possible(rule, claimants, items, count))
                self.assertTrue(low < part or (low == part and reached))
                sure = in_fractions(least_sure(rule, claimants, items, count + 1))
                if sure is not None:
                    self.assertTrue(part < sure[0] or (part == sure[0] and not sure[1]))
                (most, excess_occurs), (least, lack_occurs) = [in_fractions(one) for one in widest(rule, claimants, items)]
                excess = count - part * items
                self.assertTrue(excess < most or (excess == most and excess_occurs))
                self.assertTrue(-excess < least or (-excess == least and lack_occurs))

    def test_a_reached_part_has_claims(self):
        chance = random.Random(5)
        for _ in range(200):
            rule, items = drawn.rule(chance), chance.randint(1, 30)
            count = chance.randint(1, items)
            found = least_possible(rule, 2, items, count)
            if found is None or not found[1]:
                continue
            (top, bottom), _ = found
            with self.subTest(rule=str(rule), items=items, count=count):
                claims = (top, bottom - top)
                self.assertTrue(any(
                    fair(rule, claims, (k, items - k)) for k in range(count, items + 1)
                ))
                # A little below that part, none has the count.
                claims = (top * 10 ** 100 - 1, (bottom - top) * 10 ** 100 + 1)
                self.assertLess(max(row[0] for row in fair_divisions(rule, claims, items)), count)


class EdgesTest(unittest.TestCase):
    def test_a_count_of_0(self):
        for rule in RULES:
            for claimants in (2, 6, 12):
                for items in (0, 1, 5, 40, MOST):
                    with self.subTest(rule=str(rule), claimants=claimants, items=items):
                        self.assertEqual(least_possible(rule, claimants, items, 0), ((0, 1), False))
                        self.assertEqual(least_sure(rule, claimants, items, 0), ((0, 1), False))

    def test_counts_above_the_items(self):
        for rule in RULES:
            for claimants in (2, 6, 12):
                for items in (0, 1, 12, 40, MOST):
                    for count in (items + 1, items + 2, 2 * items + 9, 10 ** 60 - 1):
                        with self.subTest(rule=str(rule), claimants=claimants, items=items, count=count):
                            self.assertIsNone(least_possible(rule, claimants, items, count))
                            self.assertIsNone(least_sure(rule, claimants, items, count))

    def test_first_marks_of_0(self):
        # With as many items as claimants everyone has one; with fewer items, anyone may have none.
        for rule in (Rule(0), Rule((1, 2), 0), Rule(1, 0, (1, 3))):
            for claimants in (2, 6, 12):
                for items in (1, claimants - 1, claimants, claimants + 1, 100, MOST):
                    enough = items >= claimants
                    most = items - claimants + 1
                    with self.subTest(rule=str(rule), claimants=claimants, items=items):
                        self.assertEqual(least_possible(rule, claimants, items, 1), ((0, 1), False))
                        self.assertEqual(least_sure(rule, claimants, items, 1), ((0, 1), False) if enough else None)
                        self.assertIsNone(least_possible(rule, claimants, items, max(2, most + 1)))
                        self.assertIsNone(least_sure(rule, claimants, items, max(1, most) + 1))
                        if most > 1:
                            self.assertTrue(least_possible(rule, claimants, items, most)[1])
                            self.assertIsNotNone(least_sure(rule, claimants, items, most))
                        if not enough:
                            self.assertEqual(widest(rule, claimants, items), (((1, 1), False), ((items, 1), False)))

    def test_no_items(self):
        for rule in RULES:
            for claimants in (2, 6, 12):
                with self.subTest(rule=str(rule), claimants=claimants):
                    self.assertEqual(widest(rule, claimants, 0), (((0, 1), True), ((0, 1), True)))
                    self.assertEqual(least_possible(rule, claimants, 0, 0), ((0, 1), False))
                    self.assertIsNone(least_possible(rule, claimants, 0, 1))
                    self.assertIsNone(least_sure(rule, claimants, 0, 1))

    def test_worked_out_by_hand(self):
        for function, arguments, expected in (
            (least_possible, (Rule(1), 2, 3, 1), ((1, 4), True)),
            (least_possible, (Rule(1), 12, 12, 6), ((6, 23), True)),
            (least_possible, (HALF, 3, 2, 2), ((3, 5), True)),
            (least_possible, (Rule(0), 3, 4, 2), ((1, 3), True)),
            (least_possible, (Rule(0), 3, 5, 2), ((1, 4), True)),
            (least_possible, (Rule(0), 2, MOST, MOST - 1), ((MOST - 2, MOST - 1), True)),
            (least_possible, (Rule(1), 12, MOST, MOST), ((MOST, MOST + 11), True)),
            (least_sure, (Rule(1), 2, 3, 1), ((1, 4), False)),
            (least_sure, (Rule(1), 2, 3, 3), ((3, 4), False)),
            # Three others share two items: one of them has none, so its claim is above 0 in any case.
            (least_sure, (Rule(1), 4, 2, 1), ((1, 3), True)),
            (least_sure, (Rule(1), 12, 1, 1), ((1, 2), True)),
            (least_sure, (Rule(1), 2, 1, 1), ((1, 2), False)),
            (least_sure, (Rule(0), 2, MOST, 2), ((1, MOST - 1), False)),
            (least_sure, (Rule(0), 3, 4, 2), ((1, 2), True)),
            (least_sure, (Rule(0), 3, 5, 2), ((1, 3), False)),
        ):
            with self.subTest(function=function.__name__, arguments=arguments):
                self.assertEqual(function(*arguments), expected)

    def test_widest_worked_out_by_hand(self):
        # By Rule(1), k items need at least the part k / (n + 11) if there are n items for 12 claimants.
        self.assertEqual(widest(Rule(1), 12, MOST)[0][1], True)
        excess = number(widest(Rule(1), 12, MOST)[0][0])
        self.assertEqual(excess, MOST - MOST * Fraction(MOST, MOST + 11))
        # By Rule((1, 2)) nobody has more than half an item too many or too few among two claimants.
        self.assertEqual(widest(HALF, 2, MOST), (((1, 2), True), ((1, 2), True)))
        self.assertEqual(widest(Rule(0), 2, MOST)[0], ((1, 1), False))


class ManyItemsTest(unittest.TestCase):
    def test_few_items_left_to_the_others(self):
        # As if the items that are left were split alone: all marks of claimant 0 are plain ones here.
        for rule in RULES:
            first = 1 if mark(rule, 0) == 0 else 0
            marks = [mark(rule, k) for k in range(40)]
            lasts = [Fraction(0)] + marks
            for claimants in (2, 3, 4):
                for left in list(range(first * (claimants - 1), 12)) + list(range(12, 33, 1 if claimants < 4 else 5)):
                    count = MOST - left
                    splits = [row for row in divisions(claimants - 1, left) if min(row) >= first]
                    most = max(sum(marks[k] for k in row) for row in splits)
                    least = min((sum(lasts[k] for k in row), 0 in [lasts[k] for k in row]) for row in splits)
                    last, following = mark(rule, count - 1), mark(rule, count)
                    with self.subTest(rule=str(rule), claimants=claimants, left=left):
                        found = in_fractions(least_possible(rule, claimants, MOST, count))
                        self.assertEqual(found, (last / (last + most), True))
                        found = in_fractions(least_sure(rule, claimants, MOST, count + 1))
                        expected = (following / (following + least[0]), least[1]) if least[0] else None
                        self.assertEqual(found, expected)

    def test_bounds_agree_with_widest(self):
        chance = random.Random(6)
        for _ in range(150):
            rule, claimants, items = drawn.rule(chance), chance.randint(2, 12), drawn.items(chance)
            first = 1 if mark(rule, 0) == 0 else 0
            most = items - first * (claimants - 1)
            if items == 0 or most < first:
                continue
            near = [chance.randint(first, most), most, first, min(most, 9), max(first, most - 20)]
            with self.subTest(rule=str(rule), claimants=claimants, items=items):
                (excess, occurs), (lack, lack_occurs) = [in_fractions(one) for one in widest(rule, claimants, items)]
                for count in near:
                    low, reached = in_fractions(least_possible(rule, claimants, items, count))
                    self.assertLessEqual((count - low * items, reached), (excess, occurs or count - low * items < excess))
                    sure = least_sure(rule, claimants, items, count + 1)
                    high, missed = (Fraction(1), True) if sure is None else in_fractions(sure)
                    self.assertLessEqual(high * items - count, lack)
                    if high * items - count == lack and not missed:
                        self.assertTrue(lack_occurs)

    def test_widest_is_reached_by_some_count(self):
        chance = random.Random(7)
        for _ in range(60):
            rule, claimants, items = drawn.rule(chance), chance.randint(2, 12), chance.randint(12, 140)
            first = 1 if mark(rule, 0) == 0 else 0
            most = items - first * (claimants - 1)
            with self.subTest(rule=str(rule), claimants=claimants, items=items):
                excesses, lacks = [], []
                for count in range(first, most + 1):
                    low, reached = in_fractions(least_possible(rule, claimants, items, count))
                    excesses.append((count - low * items, reached))
                    sure = least_sure(rule, claimants, items, count + 1)
                    high, missed = (Fraction(1), True) if sure is None else in_fractions(sure)
                    lacks.append((high * items - count, not missed))
                found = tuple(in_fractions(one) for one in widest(rule, claimants, items))
                self.assertEqual(found, (max(excesses), max(lacks)))

    def test_more_items_never_need_a_larger_part(self):
        for rule in RULES:
            for claimants in (2, 5, 12):
                for count in (1, 2, 9):
                    parts = [least_possible(rule, claimants, items, count) for items in (count + 11, 40, 1000, MOST)]
                    sizes = [number(part) for part, _ in parts]
                    with self.subTest(rule=str(rule), claimants=claimants, count=count):
                        self.assertEqual(sizes, sorted(sizes, reverse=True))


class AgreementTest(unittest.TestCase):
    """What the functions of wholeshares.comparing tell of two rules, and least_possible."""

    def test_they_agree(self):
        chance = random.Random(8)
        rules = list(MANY_RULES) + [drawn.rule(chance) for _ in range(40)]
        rules += [Rule(rule.offset, *rule.head, (2 * len(rule.head) + 1, 2)) for rule in rules
                  if rule.offset == (1, 2) and len(rule.head) < 8]
        kind = same = 0
        for rule, other_rule in itertools.product(rules, repeat=2):
            unkind = first_unkind(rule, other_rule)
            equal = same_divisions(rule, other_rule)
            with self.subTest(rule=str(rule), other_rule=str(other_rule)):
                self.assertIs(equal, first_difference(rule, other_rule) is None)
                self.assertIs(equal, unkind is None and first_unkind(other_rule, rule) is None)
                self.assertIs(equal, rule == other_rule)
                if equal:
                    same += 1
                    self.assertEqual(most_apart(rule, other_rule, 20), 0)
                if unkind is None:
                    kind += 1
                    for claimants, items in ((2, 1), (2, 9), (3, 20), (12, 7), (12, MOST)):
                        part, other_part = (least_possible(some, claimants, items, 1) for some in (rule, other_rule))
                        self.assertLessEqual(number(part[0]), number(other_part[0]))
        self.assertGreater(same, len(rules))
        self.assertGreater(kind, 300)


class TimeTest(unittest.TestCase):
    def test_the_largest_arguments(self):
        start = time.monotonic()
        for claimants in (2, 11, 12):
            for items in (0, 11, 12, 60, 110, MOST - 1, MOST):
                for count in (0, 1, 9, items // 2, max(0, items - 70), items, 10 ** 60 - 1):
                    least_possible(LONG_RULE, claimants, items, count)
                    least_sure(LONG_RULE, claimants, items, count)
                widest(LONG_RULE, claimants, items)
        self.assertLess(time.monotonic() - start, 20)

    def test_numbers_in_lowest_terms(self):
        for rule in RULES:
            for items in (1, 6, 20, MOST):
                results = [least_possible(rule, 3, items, 1), least_sure(rule, 3, items, 2), *widest(rule, 3, items)]
                for result in results:
                    if result is None:
                        continue
                    value, flag = result
                    with self.subTest(rule=str(rule), items=items):
                        self.assertEqual((type(result), type(value), type(flag)), (tuple, tuple, bool))
                        self.assertEqual(value, drawn.pair(number(value)))

    def test_by_keyword(self):
        self.assertEqual(least_possible(count=1, items=3, claimants=2, rule=Rule(1)), ((1, 4), True))
        self.assertEqual(least_sure(count=1, items=3, claimants=2, rule=Rule(1)), ((1, 4), False))
        self.assertEqual(widest(items=1, claimants=2, rule=Rule(1)), (((1, 2), True), ((1, 2), True)))


if __name__ == "__main__":
    unittest.main()
