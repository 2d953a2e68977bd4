"""wholeshares.checker."""

import itertools
import random
import unittest
from fractions import Fraction

from tests import checker_model, drawn
from tests.certificate_samples import STRANGE, bent, by_kind, certificates
from tests.model import FEW_RULES, LONG_CLAIMS, LONG_RULE, MANY_CLAIMS, all_fair, divisions, fair, mark
from tests.samples import LONG, EqualToAll, Plain, Unequal
from wholeshares.checker import holds
from wholeshares.divisions import fair_division
from wholeshares.known import steps_of
from wholeshares.rules import Rule

HALF, ONE, ZERO = "| 1/2", "| 1", "| 0"
MOST = 10 ** 18


class Checks(unittest.TestCase):
    def check(self, claim, paper):
        """Compare the checker with the model, and return what it tells."""
        expected = checker_model.holds(claim, paper)
        self.assertIs(holds(claim, paper), expected)
        return expected

    def told(self, claim, paper, expected):
        with self.subTest(claim=claim, paper=paper):
            self.assertIs(holds(claim, paper), expected)
            self.assertIs(checker_model.holds(claim, paper), expected)
            self.assertIs(holds(paper=paper, claim=claim), expected)


class DivisionClaimsTest(Checks):
    def test_fair(self):
        for rule in FEW_RULES:
            for claims in MANY_CLAIMS:
                for items in range(5 if len(claims) < 4 else 3):
                    for division in divisions(len(claims), items):
                        with self.subTest(rule=str(rule), claims=claims, division=division):
                            self.assertIs(holds(("fair", str(rule), claims, division), ()), fair(rule, claims, division))

    def test_fair_with_long_numbers(self):
        division = fair_division(LONG_RULE, LONG_CLAIMS, MOST)
        self.told(("fair", str(LONG_RULE), LONG_CLAIMS, division), (), True)
        self.told(("fair", str(LONG_RULE), LONG_CLAIMS, (division[0] + 2, *division[1:])), (), False)

    def test_different(self):
        seen = {True: 0, False: 0}
        for rule, other in itertools.product(FEW_RULES, repeat=2):
            for claims in ((2, 1), (3, 2), ((7, 10), (3, 2)), (5, 3, 1), (1, 1)):
                for items in range(5):
                    for division in divisions(len(claims), items):
                        expected = fair(rule, claims, division) != fair(other, claims, division)
                        seen[expected] += 1
                        claim = ("different", str(rule), str(other), claims, division)
                        with self.subTest(claim=claim):
                            self.assertIs(holds(claim, ()), expected)
        self.assertGreater(min(seen.values()), 100)

    def test_unkind(self):
        for rule, other in itertools.product(FEW_RULES + (LONG_RULE,), repeat=2):
            for k, m in itertools.product(list(range(11)) + [MOST, LONG], repeat=2):
                claim = ("unkind", str(rule), str(other), k, m)
                expected = k < m and mark(rule, k) * mark(other, m) > mark(other, k) * mark(rule, m)
                with self.subTest(claim=claim):
                    self.assertIs(holds(claim, ()), expected)

    def test_forms(self):
        for claim, paper, expected in (
            (("fair", ONE, (53, 24, 23), (4, 2, 1)), (), True),
            (("fair", ONE, ((106, 2), (24, 1), 23), (4, 2, 1)), (), True),
            (("fair", ONE, (53, 24, 23), (5, 1, 1)), (), False),
            (("fair", ONE, (53, 24, 23), (4, 2, 1)), [], False),
            (("fair", ONE, (53, 24, 23), (4, 2, 1)), None, False),
            (("fair", ONE, (53, 24, 23), (4, 2, 1)), ((),), False),
            (("fair", ONE, (53, 24, 23), (4, 2, 1), ()), (), False),
            (["fair", ONE, (53, 24, 23), (4, 2, 1)], (), False),
            (("fair", ONE, [53, 24, 23], (4, 2, 1)), (), False),
            (("fair", ONE, (53, 24, 23), [4, 2, 1]), (), False),
            (("fair", ONE, (53, 24, 0), (4, 2, 1)), (), False),
            (("fair", ONE, (1, 1), (True, True)), (), False),
            (("fair", ONE, (1, 1), (True, 1)), (), False),
            (("fair", ONE, (True, 1), (1, 1)), (), False),
            (("fair", ONE, (1, (1, True)), (1, 1)), (), False),
            (("fair", ONE, (1, 1), (1, 1, 0)), (), False),
            (("fair", ONE, (), ()), (), False),
            (("fair", ONE, (5,), (3,)), (), True),
            (("fair", ONE, (1,) * 6, (1,) * 6), (), True),
            (("fair", ONE, (1,) * 7, (1,) * 7), (), False),
            (("fair", Rule(1), (1, 1), (1, 1)), (), False),
            (("fair", "| 2/2", (1, 1), (1, 1)), (), False),
            (("fair", "2 | 1", (1, 1), (1, 1)), (), False),
            (("fair", "1 | 1", (1, 1), (1, 1)), (), True),
            (("different", ONE, ZERO, (2, 1), (2, 0)), (), True),
            (("different", ONE, ONE, (2, 1), (2, 0)), (), False),
            (("different", ONE, "1 2 | 1", (2, 1), (2, 0)), (), False),
            (("different", ONE, ZERO, (2, 1), (2, 0)), (0,), False),
            (("unkind", ONE, HALF, 0, 1), (), True),
            (("unkind", HALF, ONE, 0, 1), (), False),
            (("unkind", ONE, HALF, 1, 0), (), False),
            (("unkind", ONE, HALF, 1, 1), (), False),
            (("unkind", ONE, HALF, -1, 1), (), False),
            (("unkind", ONE, HALF, False, 1), (), False),
            (("unkind", ONE, HALF, 0, True), (), False),
            (("unkind", ONE, HALF, (0, 1), 1), (), False),
            (("unkind", ONE, ZERO, 0, LONG), (), True),
            (("unkind", ZERO, ZERO, 0, 1), (), False),
            (("unkind", ONE, HALF, 0, 1), None, False),
            (("kind", ONE, HALF, 0, 1), (), False),
            (("Fair", ONE, (1, 1), (1, 1)), (), False),
            ((), (), False), (("fair",), (), False), ("fair", (), False), (None, None, False),
        ):
            self.told(claim, paper, expected)


FAIR = ("fair", ONE, (2, 1), None)
UNIQUE = ("unique", ONE, (2, 1), None)
UP, DOWN = ("ratio", 0, 1, 3, None), ("ratio", 0, 1, None, 1)


class StatementClaimsTest(Checks):
    def test_satisfied(self):
        for claim, paper, expected in (
            (("satisfied", 2, (FAIR,)), (2, 1), True),
            (("satisfied", 2, (FAIR,)), (3, 1), True),
            (("satisfied", 2, (FAIR,)), (1, 1), True),
            (("satisfied", 2, (UNIQUE,)), (2, 1), True),
            (("satisfied", 2, (UNIQUE,)), (3, 1), False),
            (("satisfied", 2, (UNIQUE,)), (1, 1), False),
            (("satisfied", 2, (FAIR, UP)), ((9, 3), (2, 2)), True),
            (("satisfied", 2, (UNIQUE, UP)), (3, 1), False),
            (("satisfied", 2, (FAIR,)), [2, 1], False),
            (("satisfied", 2, (FAIR,)), (2, 1, 1), False),
            (("satisfied", 2, (FAIR,)), (2,), False),
            (("satisfied", 2, (FAIR,)), (2, True), False),
            (("satisfied", 2, (FAIR,)), (2, 0), False),
            (("satisfied", 2, (FAIR,)), (), False),
            (("satisfied", 2, ()), (1, LONG), True),
            (("satisfied", 6, ()), (1,) * 6, True),
            (("satisfied", 7, ()), (1,) * 7, False),
            (("satisfied", 1, ()), (1,), False),
            (("satisfied", True, ()), (1,), False),
            (("satisfied", (2, 1), ()), (1, 1), False),
            (("satisfied", 2, (FAIR,) * 12), (2, 1), True),
            (("satisfied", 2, (FAIR,) * 13), (2, 1), False),
            (("satisfied", 2, [FAIR]), (2, 1), False),
            (("satisfied", 2, (list(FAIR),)), (2, 1), False),
            (("satisfied", 2, FAIR), (2, 1), False),
            (("satisfied", 2, (("fair", Rule(1), (2, 1), None),)), (2, 1), False),
            (("satisfied", 2, (("fair", "| 2/2", (2, 1), None),)), (2, 1), False),
            (("satisfied", 3, (FAIR,)), (2, 1, 1), False),
            (("satisfied", 2, (("fair", ONE, (2, 1), ((1, 2), 1)),)), (4, 1), True),
            (("satisfied", 2, (("fair", ONE, (2, 1), (0, 1)),)), (4, 1), False),
            (("satisfied", 2, (("fair", ONE, (2, 1), [1, 1]),)), (2, 1), False),
            (("satisfied", 2, (("ratio", 0, 0, 1, 1),)), (1, 1), False),
            (("satisfied", 2, (("ratio", 0, 1, 0, 1),)), (1, 1), False),
            (("satisfied", 2, (("ratio", False, 1, 1, 1),)), (1, 1), False),
            (("satisfied", 2, (("unique", ZERO, (1, 0), None),)), (2, 1), False),
            (("satisfied", 2, (("fair", ZERO, (1, 0), None),)), (2, 1), True),
            (("satisfied", 2, (("fair", ZERO, (2, 0), None),)), (10 ** 59, 1), False),
        ):
            self.told(claim, paper, expected)

    def test_contradicted(self):
        # Step 0 of FAIR: c[1] <= c[0]; step 1: c[0] <= 3 * c[1].
        down, up = steps_of(2, DOWN)[0], steps_of(2, UP)[0]
        strict = steps_of(2, ("unique", Rule(1), (2, 1), None))
        plain = steps_of(2, ("fair", Rule(1), (2, 1), None))
        both = ("contradicted", 2, (UP, DOWN))
        just, broken = ("contradicted", 2, (UP, UNIQUE)), ("contradicted", 2, (UP, FAIR))
        for claim, paper, expected in (
            (both, ((0, up), (1, down)), True),
            (both, ((1, down), (0, up)), True),
            (both, ((0, up), (1, down)) * 2, True),
            (both, ((0, up),), False),
            (both, ((0, up), (1, down), (0, up)), False),
            (both, ((1, up), (0, down)), False),
            (both, ((0, up), (0, up)), False),
            (both, (), False),
            (both, [(0, up), (1, down)], False),
            (both, ([0, up], (1, down)), False),
            (both, ((0, list(up)), (1, down)), False),
            (both, ((0, up), (True, down)), False),
            (both, ((False, up), (1, down)), False),
            (both, ((0, up), (2, down)), False),
            (both, ((0, up), (-1, down)), False),
            (both, ((0, up, 0), (1, down)), False),
            (both, ((0, up), (1, (1, 0, (1, 1), 0))), False),
            (both, ((0, (0, 1, (1, 3), False)), (1, (1, 0, (2, 2), False))), False),
            (both, ((0, (0, 1, [1, 3], False)), (1, down)), False),
            (both, ((0, (False, 1, (1, 3), False)), (1, down)), False),
            (both, ((0, (0, True, (1, 3), False)), (1, down)), False),
            (both, ((0, (0, 1, (True, 3), False)), (1, down)), False),
            (both, ((0, (0, 1, (1, 3), True)), (1, down)), False),
            # The product is 1: a strict step alone decides.
            (just, ((0, up), (1, strict[1])), True),
            (just, ((1, strict[1]), (0, up)), True),
            (just, ((1, strict[1]), (0, up)) * 3, True),
            (just, ((1, strict[0]), (1, strict[1])), False),
            (just, ((0, up), (1, plain[1])), False),
            (broken, ((0, up), (1, plain[1])), False),
            (broken, ((0, up), (1, strict[1])), False),
            (("contradicted", 2, (UP, DOWN, "x")), ((0, up), (1, down)), False),
            (("contradicted", 2, (UP, DOWN) * 6), ((10, up), (11, down)), True),
            (("contradicted", 2, (UP, DOWN) * 6 + (UP,)), ((10, up), (11, down)), False),
            (("contradicted", 3, (UP, DOWN)), ((0, up), (1, down)), True),
            (("contradicted", 7, (UP, DOWN)), ((0, up), (1, down)), False),
        ):
            self.told(claim, paper, expected)

    def test_steps_with_the_factor_0(self):
        statements = (("unique", ZERO, (1, 0), None), UP, ("fair", ZERO, (0, 2), None))
        first, last = steps_of(2, ("unique", Rule(0), (1, 0), None))[0], steps_of(2, ("fair", Rule(0), (0, 2), None))[0]
        up = steps_of(2, UP)[0]
        self.assertEqual((first, last), ((0, 1, (0, 1), True), (1, 0, (0, 1), False)))
        claim = ("contradicted", 2, statements)
        for paper, expected in (
            (((0, first),), True), (((2, last),), True), (((0, last),), False), (((1, up),), False),
            (((0, first), (2, last)), True), (((1, up), (2, last)), True), (((2, last), (1, up)), True),
            (((0, first), (2, last), (1, up)), False), (((0, (0, 1, (0, 1), False)),), False),
            (((0, (0, 1, (0, 2), True)),), False),
        ):
            self.told(claim, paper, expected)
        # Such steps may stand in the path of a ratio, which no claims break then.
        for paper, expected in ((((0, first), (2, last)), False), (((2, last),), True),
                                (((2, last), (0, first), (2, last)), True), (((0, first),), False)):
            self.told(("ratio", 2, statements, 0, 1, (1, LONG)), paper, expected)

    def test_ratio(self):
        statements = (FAIR, ("ratio", 1, 0, (1, 2), None))
        step, half = steps_of(2, ("fair", Rule(1), (2, 1), None)), steps_of(2, statements[1])[0]
        self.assertEqual((step[1], half), ((1, 0, (3, 1), False), (1, 0, (2, 1), False)))
        long = ((0, step[1]), (0, step[0]), (1, half))
        for i, j, number, paper, expected in (
            (0, 1, 3, ((0, step[1]),), True), (0, 1, (3, 1), ((0, step[1]),), True), (0, 1, (6, 2), ((0, step[1]),), True),
            (0, 1, 2, ((0, step[1]),), False), (0, 1, 2, ((1, half),), True), (0, 1, (199, 100), ((1, half),), False),
            (0, 1, LONG, ((1, half),), True), (1, 0, 1, ((0, step[0]),), True), (1, 0, 3, ((0, step[1]),), False),
            (0, 1, 6, long, True), (0, 1, 5, long, False), (0, 1, 6, long[1:], False), (1, 0, 6, long, False),
            (0, 1, 3, (), False), (0, 0, 3, ((0, step[1]),), False), (0, 0, 3, long[:2], False), (1, 1, 3, (), False),
            (0, 1, 0, ((1, half),), False), (0, 1, (0, 1), ((1, half),), False), (0, 1, -3, ((1, half),), False),
            (0, True, 3, ((1, half),), False), (False, 1, 3, ((1, half),), False), (0, 2, 3, ((1, half),), False),
            (0, 1, True, ((0, step[0]),), False), (0, 1, (3, True), ((1, half),), False), (0, 1, None, ((1, half),), False),
            (0, 1, [3, 1], ((1, half),), False), (0, 1, "3", ((1, half),), False), (0, -1, 3, ((1, half),), False),
            (0, 1, 3, [(1, half)], False), (0, 1, 3, ((0, half),), False), (0, 1, 3, (half,), False),
            (0, 1, 7, long[:2] * 3 + long, False), (0, 1, 162, long[:2] * 3 + long, True),
        ):
            self.told(("ratio", 2, statements, i, j, number), paper, expected)

    def test_a_path_visits_claimants_several_times(self):
        chance = random.Random(51)
        for _ in range(60):
            n = chance.randint(2, 5)
            rule = drawn.rule(chance, (0, 1))
            claims = tuple(chance.randint(1, 20) for _ in range(n))
            statements = tuple(
                (word, str(rule), fair_division(rule, claims, items), None)
                for word, items in (("fair", 5), ("unique", 9), ("fair", 30))
            ) + (("ratio", 0, 1, 1, 1),)
            steps = [
                (place, step) for place, (word, _, division, factors) in enumerate(statements[:3])
                for step in steps_of(n, (word, rule, division, factors))
            ]
            steps += [(3, step) for step in steps_of(n, statements[3])]
            path = [chance.choice(steps)]
            while len(path) < 12:
                following = [pair for pair in steps if pair[1][0] == path[-1][1][1]]
                if not following:
                    break
                path.append(chance.choice(following))
            i, j = path[-1][1][1], path[0][1][0]
            total = Fraction(1)
            for _, step in path:
                total *= Fraction(*step[2])
            for number in (total, total * Fraction(10 ** 9 - 1, 10 ** 9), total * 2, Fraction(1, 2)):
                if number > 0:
                    self.check(("ratio", n, statements, i, j, drawn.pair(number)), tuple(path))
            self.check(("contradicted", n, statements), tuple(path))


class BentTest(Checks):
    """Certificates that are bent at one place, however slightly or strangely."""

    def test_every_kind(self):
        chance = random.Random(52)
        kinds = by_kind(certificates(53, 25))
        self.assertEqual(set(kinds), {"fair", "different", "unkind", "satisfied", "contradicted", "ratio"})
        accepted = refused = 0
        for kind, some in kinds.items():
            for claim, paper in some[:12]:
                self.assertTrue(self.check(claim, paper))
                claims, papers = bent(claim), bent(paper)
                for other in chance.sample(claims, min(len(claims), 250)):
                    told = self.check(other, paper)
                    accepted, refused = accepted + told, refused + (not told)
                for other in chance.sample(papers, min(len(papers), 200)):
                    told = self.check(claim, other)
                    accepted, refused = accepted + told, refused + (not told)
        self.assertGreater(accepted, 300)
        self.assertGreater(refused, 5000)

    def test_papers_of_other_claims(self):
        some = certificates(54, 8)
        for (claim, _), (_, paper) in itertools.product(some, repeat=2):
            self.check(claim, paper)

    def test_anything_else(self):
        for claim, paper in itertools.product(STRANGE, repeat=2):
            self.assertIs(holds(claim, paper), False)
        for word in ("fair", "different", "unkind", "satisfied", "contradicted", "ratio", "x"):
            for value, other in itertools.product(STRANGE, repeat=2):
                for length in (1, 2, 3, 4, 5):
                    self.assertIs(holds((word,) + (value,) * length, other), False)

    def test_nested_values(self):
        value, rows, table = 1, 1, "x"
        for _ in range(14):
            value, rows, table = (value, value), [rows], {"x": table}
        for nested in (value, rows, table):
            for claim in (nested, ("fair", nested, nested, nested), ("satisfied", 2, (nested,)),
                          ("fair", ONE, (nested, 1), (1, 1)), ("contradicted", 2, ((nested,) * 4, (nested,) * 5)),
                          ("ratio", 2, (UP,), 0, 1, nested), (nested,) * 4, ("unkind", ONE, HALF, nested, nested)):
                for paper in (nested, (), (nested,), ((0, nested),), ((0, (0, 1, nested, True)),)):
                    self.assertIs(holds(claim, paper), False)

    def test_foreign_objects_are_not_looked_into(self):
        for strange in (Plain(), EqualToAll(), Unequal()):
            up = steps_of(2, UP)[0]
            for claim, paper in (
                (("fair", ONE, (1, 1), (1, 1)), strange), (("fair", strange, (1, 1), (1, 1)), ()),
                (("contradicted", 2, (UP, DOWN)), ((0, strange), (1, strange))),
                (("contradicted", 2, (UP, DOWN)), ((0, up[:3] + (strange,)), (1, up))),
                (("contradicted", 2, (UP, DOWN)), ((strange, up), (1, up))),
                (("satisfied", 2, ((strange, ONE, (1, 1), None),)), (1, 1)),
                (("satisfied", 2, (("fair", ONE, (1, 1), strange),)), (1, 1)),
                (("satisfied", 2, (("ratio", 0, 1, strange, None),)), (1, 1)),
                (("ratio", 2, (UP,), strange, 0, 1), ((0, up),)), ((strange,) * 4, ()),
            ):
                self.assertIs(holds(claim, paper), False)


class FalseClaimsTest(Checks):
    """No paper shows a false claim: all papers of a few steps are tried."""

    def test_no_path_contradicts_consistent_statements(self):
        statements = (FAIR, UNIQUE, ("ratio", 0, 1, 2, 2))
        steps = [(place, step) for place, statement in enumerate(statements)
                 for step in steps_of(2, statement if place == 2 else (statement[0], Rule(1), (2, 1), None))]
        for length in range(1, 5):
            for path in itertools.product(steps, repeat=length):
                self.assertIs(holds(("contradicted", 2, statements), path), False)
                for number in ((199, 100), 1):
                    self.assertIs(holds(("ratio", 2, statements, 0, 1, number), path), False)

    def test_no_division_is_called_fair_that_is_not(self):
        for rule in FEW_RULES:
            for claims in ((5, 3), (4, 2, 1)):
                for items in range(7):
                    shown = [row for row in divisions(len(claims), items) if holds(("fair", str(rule), claims, row), ())]
                    self.assertEqual(tuple(shown), all_fair(rule, claims, items))


if __name__ == "__main__":
    unittest.main()
