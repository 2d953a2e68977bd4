"""wholeshares.divisions: fair_divisions and fair_division."""

import itertools
import math
import time
import unittest

from tests.model import (
    FEW_RULES, LONG_CLAIMS, LONG_RULE, MANY_CLAIMS, MANY_RULES, all_fair, fair, neighbours, number,
)
from tests.samples import LONG
from wholeshares.divisions import fair_division, fair_divisions
from wholeshares.rules import Rule

MOST = 10 ** 18
MOST_BY_CLAIMANTS = {1: 30, 2: 24, 3: 10, 4: 6, 5: 4, 6: 3}


def all_tied(claimants, items):
    """Return the divisions that give some of the claimants one item and the others none."""
    chosen = itertools.combinations(range(claimants), items)
    return tuple(tuple(int(k in some) for k in range(claimants)) for some in chosen)


class FewItemsTest(unittest.TestCase):
    def test_exactly_the_fair_divisions_in_descending_order(self):
        for rule in MANY_RULES:
            for claims in MANY_CLAIMS:
                for items in range(MOST_BY_CLAIMANTS[len(claims)] + 1):
                    expected = all_fair(rule, claims, items)
                    with self.subTest(rule=str(rule), claims=claims, items=items):
                        self.assertEqual(fair_divisions(rule, claims, items), expected)
                        self.assertEqual(fair_division(rule, claims, items), expected[0])

    def test_where_the_heads_of_all_claimants_end(self):
        # With these counts the claimants stand at different marks of the head and behind it.
        for rule in MANY_RULES:
            for claims in ((1, 1), (2, 1), (7, 2), ((1, 2), (1, 3)), (1, 1, 1), (3, 2, 2), (5, 3, 1)):
                for items in (11, 16, 17, 18, 19, 20, 24, 25, 26, 27, 28, 29, 40):
                    expected = all_fair(rule, claims, items) if len(claims) == 2 else None
                    with self.subTest(rule=str(rule), claims=claims, items=items):
                        found = fair_divisions(rule, claims, items)
                        if expected is None:
                            expected = tuple(near for near in neighbours(found[0]) if fair(rule, claims, near))
                        self.assertEqual(found, expected)

    def test_divisions_worked_out_by_hand(self):
        middle = Rule((1, 2))
        for rule, claims, items, expected in (
            (Rule(1), (53, 24, 23), 7, ((4, 2, 1),)),
            (middle, (53, 24, 23), 7, ((3, 2, 2),)),
            (Rule(0), (53, 24, 23), 7, ((3, 2, 2),)),
            (Rule(1), (2, 1, 1), 2, ((2, 0, 0), (1, 1, 0), (1, 0, 1))),
            (Rule(1), (2, 1, 1), 3, ((2, 1, 0), (2, 0, 1), (1, 1, 1))),
            (Rule(1), (2, 1, 1), 4, ((2, 1, 1),)),
            (middle, (3, 1), 2, ((2, 0), (1, 1))),
            (middle, (3, 1), 4, ((3, 1),)),
            (middle, (5, 3), 4, ((3, 1), (2, 2))),
            (Rule((1, 2), (7, 10)), (15, 7), 2, ((2, 0), (1, 1))),
            (Rule((1, 2), (7, 10)), (15, 8), 2, ((1, 1),)),
            (Rule(0), (3, 2, 1), 6, ((3, 2, 1),)),
            (Rule(0), (2, 1), 4, ((3, 1), (2, 2))),
            (Rule(1), ((1, 2), (1, 3), (1, 6)), 6, ((3, 2, 1),)),
        ):
            with self.subTest(rule=str(rule), claims=claims, items=items):
                self.assertEqual(fair_divisions(rule, claims, items), expected)
                self.assertEqual(fair_division(rule, claims, items), expected[0])


class EdgesTest(unittest.TestCase):
    def test_ties_among_equal_claims(self):
        for rule in (Rule(1), Rule((1, 2)), Rule((1, 2), (7, 10)), Rule(0, (1, 2)), LONG_RULE):
            for claimants in range(1, 7):
                for items in range(claimants):
                    with self.subTest(rule=str(rule), claimants=claimants, items=items):
                        expected = all_tied(claimants, items)
                        self.assertEqual(fair_divisions(rule, ((2, 3),) * claimants, items), expected)
                        # The same above 7 items for each claimant.
                        more = tuple(tuple(7 + count for count in division) for division in expected)
                        self.assertEqual(fair_divisions(rule, (LONG,) * claimants, 7 * claimants + items), more)

    def test_fewer_items_than_claimants_for_a_first_mark_of_0(self):
        # All first items are due at the same time, whatever the claims are.
        claims = (10 ** 59, 1, (1, 10 ** 59), 7, (3, 2), 7)
        for rule in (Rule(0), Rule((1, 2), 0), Rule(1, 0, (1, 3))):
            for claimants in range(1, 7):
                for items in range(claimants + 1):
                    with self.subTest(rule=str(rule), claimants=claimants, items=items):
                        self.assertEqual(fair_divisions(rule, claims[:claimants], items), all_tied(claimants, items))
            self.assertEqual(fair_divisions(rule, claims, 9), ((4, 1, 1, 1, 1, 1),))

    def test_no_items(self):
        for rule in MANY_RULES:
            for claims in MANY_CLAIMS:
                with self.subTest(rule=str(rule), claims=claims):
                    self.assertEqual(fair_divisions(rule, claims, 0), ((0,) * len(claims),))
                    self.assertEqual(fair_division(rule, claims, 0), (0,) * len(claims))

    def test_one_claimant_alone(self):
        for rule in MANY_RULES:
            for claims in ((1,), ((1, 10 ** 59),), (LONG,)):
                for items in (0, 1, 2, 7, 8, 9, 10, 17, 18, 19, 1000, MOST - 1, MOST):
                    with self.subTest(rule=str(rule), claims=claims, items=items):
                        self.assertEqual(fair_divisions(rule, claims, items), ((items,),))

    def test_a_claimant_without_items(self):
        self.assertEqual(fair_divisions(Rule(1), (MOST + 1, 1), MOST), ((MOST, 0),))
        self.assertEqual(fair_divisions(Rule(1), (MOST, 1), MOST), ((MOST, 0), (MOST - 1, 1)))
        self.assertEqual(fair_divisions(Rule(1), (MOST - 1, 1), MOST), ((MOST - 1, 1),))
        self.assertEqual(fair_divisions(Rule(0), (10 ** 59, 1), MOST), ((MOST - 1, 1),))

    def test_results_are_tuples_of_integers(self):
        for items in (0, 3, 10 ** 18):
            found = fair_divisions(Rule(1), ((1, 2), 1, 1), items)
            self.assertIs(type(found), tuple)
            self.assertEqual({type(division) for division in found}, {tuple})
            self.assertEqual({type(count) for division in found for count in division}, {int})
            self.assertIs(type(fair_division(Rule(1), ((1, 2), 1, 1), items)), tuple)

    def test_equal_calls_return_the_same(self):
        for rule, same in ((Rule((1, 2)), Rule((2, 4), (1, 2), (3, 2))), (Rule(1), Rule(1, 1, 2))):
            for items in (0, 1, 5, 12, 10 ** 18):
                with self.subTest(rule=str(rule), items=items):
                    expected = fair_divisions(rule, (3, 2, 1), items)
                    self.assertEqual(fair_divisions(rule, (3, 2, 1), items), expected)
                    self.assertEqual(fair_divisions(same, ((6, 2), (4, 2), 1), items), expected)
                    self.assertEqual(fair_division(same, ((6, 2), (4, 2), 1), items), expected[0])

    def test_by_keyword(self):
        self.assertEqual(fair_divisions(items=2, claims=(2, 1, 1), rule=Rule(1)), ((2, 0, 0), (1, 1, 0), (1, 0, 1)))
        self.assertEqual(fair_division(items=2, claims=(2, 1, 1), rule=Rule(1)), (2, 0, 0))


class ManyItemsTest(unittest.TestCase):
    def test_exactly_the_fair_divisions(self):
        # The first one is checked by the condition of point 8, too, as it is its own neighbour.
        for rule in FEW_RULES + (LONG_RULE,):
            for claims in MANY_CLAIMS:
                for items in (999, 10 ** 9 + 1, MOST - 1, MOST):
                    with self.subTest(rule=str(rule), claims=claims, items=items):
                        found = fair_divisions(rule, claims, items)
                        self.assertEqual(sum(found[0]), items)
                        expected = [near for near in neighbours(found[0]) if fair(rule, claims, near)]
                        self.assertEqual(found, tuple(expected))
                        self.assertEqual(fair_division(rule, claims, items), found[0])

    def test_heads_far_ahead_of_the_other_marks_and_far_behind_them(self):
        # Eight items are due at once for the smaller claims, or are due only when the larger claim has got hundreds.
        early = Rule(1, *[(k, 10 ** 59) for k in range(8)])
        late = Rule(1, *[(81 + k, 10) for k in range(8)])
        for rule in (early, late):
            for claims in ((1000, 8), (1000, 1, 1, 1, 1, 1), (1000, 8, 8, 8, 8, 8), (1000, 999, 7, 7), (50, 3, 2, 1)):
                for items in list(range(0, 1200, 23)) + list(range(1000, 1080, 5)) + [MOST]:
                    found = fair_divisions(rule, claims, items)
                    with self.subTest(rule=str(rule), claims=claims, items=items):
                        expected = [near for near in neighbours(found[0]) if fair(rule, claims, near)]
                        self.assertEqual(found, tuple(expected))

    def test_ties_of_many_items(self):
        for rule in FEW_RULES:
            for claimants in range(1, 7):
                each, rest = divmod(MOST, claimants)
                with self.subTest(rule=str(rule), claimants=claimants):
                    found = fair_divisions(rule, (LONG,) * claimants, MOST)
                    expected = tuple(tuple(each + more for more in some) for some in all_tied(claimants, rest))
                    self.assertEqual(found, expected)
                    self.assertEqual(len(found), math.comb(claimants, rest))

    def test_exact_shares_are_kept(self):
        # If every share is whole, the rules with the offset 1/2 give the shares.
        claims = (5, 4, 3, 2, 1, 1)
        shares = tuple(MOST * claim // 16 for claim in claims)
        self.assertEqual(fair_divisions(Rule((1, 2)), claims, MOST), (shares,))
        self.assertEqual(fair_divisions(Rule((1, 2), (7, 10)), claims, MOST), (shares,))
        # By an offset of 1 the last items of the shares are due at the same time, by 0 the next ones.
        self.assertEqual(fair_divisions(Rule(1), claims, MOST), (shares,))
        self.assertEqual(len(fair_divisions(Rule(1), claims, MOST - 3)), 20)
        self.assertEqual(len(fair_divisions(Rule(0), claims, MOST + 3 - 16)), 20)

    def test_long_numbers_take_no_long_time(self):
        start = time.monotonic()
        for claims in (LONG_CLAIMS, LONG_CLAIMS[::-1], (10 ** 60 - 1, (1, 10 ** 60 - 1)) * 3):
            for items in (0, 1, 60, 200, MOST):
                found = fair_divisions(LONG_RULE, claims, items)
                with self.subTest(claims=claims, items=items):
                    near = neighbours(found[0])
                    self.assertEqual(found, tuple(other for other in near if fair(LONG_RULE, claims, other)))
        self.assertLess(time.monotonic() - start, 20)


class RelationsTest(unittest.TestCase):
    """What follows from the condition of point 8, for few items and for many."""

    ITEMS = (1, 2, 3, 5, 8, 13, 40, 1000, MOST)

    def test_claims_multiplied_by_one_number(self):
        for rule in FEW_RULES:
            for claims in MANY_CLAIMS:
                factors = (2, (1, 3), 10 ** 40, (LONG, LONG + 1))
                for items, factor in zip(self.ITEMS, itertools.cycle(factors)):
                    products = [number(claim) * number(factor) for claim in claims]
                    others = tuple((product.numerator, product.denominator) for product in products)
                    with self.subTest(rule=str(rule), claims=claims, items=items, factor=factor):
                        expected = fair_divisions(rule, claims, items)
                        self.assertEqual(fair_divisions(rule, others, items), expected)

    def test_claimants_in_another_order(self):
        for rule in FEW_RULES:
            for claims in MANY_CLAIMS:
                for items in self.ITEMS:
                    order = sorted(range(len(claims)), key=lambda k: (k * items + 1) * 7 % 11)
                    found = fair_divisions(rule, tuple(claims[k] for k in order), items)
                    expected = [tuple(row[k] for k in order) for row in fair_divisions(rule, claims, items)]
                    with self.subTest(rule=str(rule), claims=claims, items=items):
                        self.assertEqual(found, tuple(sorted(expected, reverse=True)))

    def test_two_claimants_alone_with_their_items(self):
        for rule in FEW_RULES:
            for claims in MANY_CLAIMS:
                for items in self.ITEMS:
                    division = fair_division(rule, claims, items)
                    for i, j in itertools.combinations(range(len(claims)), 2):
                        with self.subTest(rule=str(rule), claims=claims, items=items, i=i, j=j):
                            alone = fair_divisions(rule, (claims[i], claims[j]), division[i] + division[j])
                            self.assertIn((division[i], division[j]), alone)


if __name__ == "__main__":
    unittest.main()
