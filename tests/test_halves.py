"""[15.1] to [15.4] and the module mostkept.hard.halves."""

import copy
import itertools
import random
import unittest

from mostkept.base.scales import Scale
from mostkept.errors import InvalidOperation, TooMany
from mostkept.hard.halves import doubled_bound, exact_keep, half_paper, is_half_paper, near_keep, settled
from mostkept.keeps.greatest import least_loss
from mostkept.orders.chains import chain
from mostkept.orders.witnesses import small_rules as problem_rules
from mostkept.rules.rules import Rules
from mostkept.tables.conflicts import clusters, conflicts, is_full, is_keep
from mostkept.tables.tables import Table
from tests.helper import FORTY, KNOWN, NO_PLACES, NO_RULES, PLACES, PLAN, STOCK, TALKS, Case, otherwise, plain, values
from tests.search import SCALES, all_keeps, clash, lost, small_rules, some_rules, some_table

EXAMPLES = """
>>> [half_paper(STOCK, PLACES)[1], doubled_bound(STOCK, PLACES), exact_keep(STOCK, PLACES), settled(STOCK, PLACES, half_paper(STOCK, PLACES))]
[(2, 0, 0), 2, (1, 2), ((1, 2), (0,))]
>>> ONE, ROWS = Rules(("x",), ((), ("x",))), Table(("x",), (1,), (2,), (3,))
>>> [half_paper(ROWS, ONE)[1], doubled_bound(ROWS, ONE), len(exact_keep(ROWS, ONE)), doubled_bound(PLAN, TALKS)]
[(1, 1, 1), 3, 1, 8]
"""
ABCD = ("a", "b", "c", "d")
ONE = Rules(("x",), ((), ("x",)))
ROWS = Table(("x",), (1,), (2,), (3,))
HALF = ("half", (2, 0, 0), {(0, 1): 1, (1, 0): 1})


def cases():
    """Return tables in all scales with rules of all kinds, with a chain and without one."""
    rules = small_rules()[1::11] + some_rules(ABCD, 4, 50, 21) + [TALKS, PLACES, ONE]
    rules += [problem_rules(problem) for problem in ("labels", "row", "turn", "triangles")] * 4
    return [(some_table(one.columns, number % 7, 2 + number % 2, SCALES[number % 3], number), one)
            for number, one in enumerate(rules)]


def against(table, rules):
    return [(at, other) for at, other in itertools.combinations(range(len(table)), 2) if clash(rules, table[at], table[other])]


def doubled(table, halves):
    return table.scale.plus(*[weight for half, weight in zip(halves, table.weights) for _ in range(half)])


def all_halves(table, rules):
    pairs = against(table, rules)
    return [halves for halves in itertools.product((0, 1, 2), repeat=len(table))
            if all(halves[at] + halves[other] >= 2 for at, other in pairs)]


def right_flows(table, rules, flows):
    """Return whether the value is flows by the words of [15.2]."""
    pairs, scale = against(table, rules), table.scale
    if not isinstance(flows, dict) or not all(isinstance(key, tuple) and plain(key) and len(key) == 2 for key in flows):
        return False
    if not all(tuple(sorted(key)) in pairs if all(isinstance(at, int) for at in key) else False for key in flows):
        return False
    if not all(one in scale and scale.sign(one) > 0 for one in flows.values()):
        return False
    for side in (0, 1):
        for at in range(len(table)):
            if scale.is_less(table.weight(at), scale.plus(*[flows[key] for key in flows if key[side] == at])):
                return False
    return True


def right_paper(table, rules, value):
    """Return whether the value is a half paper by the words of [15.3]."""
    if not isinstance(value, tuple) or len(value) != 3 or value[0] != "half" or not isinstance(value[1], tuple):
        return False
    if not plain(value[1]) or value[1] not in all_halves(table, rules) or not right_flows(table, rules, value[2]):
        return False
    return table.scale.plus(*value[2].values()) == doubled(table, value[1])


def has_odd_circle(table, rules):
    sides, pairs = {}, against(table, rules)
    for start in range(len(table)):
        waiting = [] if start in sides else [(start, 0)]
        while waiting:
            at, side = waiting.pop()
            if at in sides:
                if sides[at] != side:
                    return True
                continue
            sides[at] = side
            waiting += [(other, 1 - side) for pair in pairs if at in pair for other in pair if other != at]
    return False


class HalvesTest(Case):

    def test_examples(self):
        self.examples(EXAMPLES, {**globals(), **KNOWN})

    def test_papers_and_bounds_by_search(self):
        odd = 0
        for table, rules in cases():
            paper = half_paper(table, rules)
            self.assertIs(is_half_paper(table, rules, paper), True)
            self.assertIs(right_paper(table, rules, paper), True)
            self.assertEqual(list(paper[2]), sorted(paper[2]))
            least = table.scale.least(*[doubled(table, halves) for halves in all_halves(table, rules)])
            self.assertEqual(doubled(table, paper[1]), least)
            self.assertEqual(doubled_bound(table, rules), least)
            found = all_keeps(table, rules)
            loss = table.scale.least(*[lost(table, keep) for keep in found])
            twice = table.scale.twice(loss)
            self.assertFalse(table.scale.is_less(twice, least))
            self.assertFalse(table.scale.is_less(least, loss))
            if not has_odd_circle(table, rules):
                self.assertEqual(least, twice)
            else:
                odd += 1
            zeros, twos = settled(table, rules, paper)
            self.assertEqual((zeros, twos), tuple(tuple(at for at, half in enumerate(paper[1]) if half == one) for one in (0, 2)))
            self.assertTrue(any(set(zeros) <= set(keep) and not set(twos) & set(keep) and lost(table, keep) == loss for keep in found))
        self.assertGreater(odd, 10)

    def test_near_keeps_and_exact_keeps(self):
        chained = []
        for table, rules in cases():
            found = all_keeps(table, rules)
            near = near_keep(table, rules)
            self.assertIs(is_full(table, rules, near), True)
            self.assertFalse(table.scale.is_less(doubled_bound(table, rules), lost(table, near)))
            exact = exact_keep(table, rules)
            self.assertIn(exact, found)
            self.assertEqual(lost(table, exact), table.scale.least(*[lost(table, keep) for keep in found]))
            chained.append(chain(rules) is not None)
            if chained[-1]:
                self.assertEqual(lost(table, exact), least_loss(table, rules))
        self.assertEqual(set(chained), {True, False})

    def test_tables_without_rows_or_conflicts(self):
        for scale in SCALES:
            empty = Table(STOCK.columns, scale=scale)
            self.assertEqual(half_paper(empty, PLACES), ("half", (), {}))
            self.assertEqual([doubled_bound(empty, PLACES), near_keep(empty, PLACES), exact_keep(empty, PLACES)], [scale.zero, (), ()])
            self.assertEqual(settled(empty, PLACES, ("half", (), {})), ((), ()))
            free = some_table(STOCK.columns, 200, 3, scale, 2)
            self.assertEqual(half_paper(free, NO_PLACES), ("half", (0,) * 200, {}))
            self.assertEqual(exact_keep(free, NO_PLACES), tuple(range(200)))
            self.assertIs(is_half_paper(free, NO_PLACES, ("half", (0,) * 199 + (1,), {})), False)

    def test_bounds_by_hand(self):
        # [15.4]: with a chain the bound can be less than twice the least loss.
        for scale in SCALES:
            rows = Table(("x",), (1,), (2,), (3,), scale=scale)
            self.assertEqual(doubled_bound(rows, ONE), scale.plus(*rows.weights))
            self.assertEqual(least_loss(rows, ONE), scale.twice(scale.one))
        heavy = Table(("x",), (1,), (2,), (3,), weights=(FORTY, 1, 1))
        self.assertEqual([half_paper(heavy, ONE)[1], doubled_bound(heavy, ONE), exact_keep(heavy, ONE)], [(0, 2, 2), 4, (0,)])
        odds = Table(("x",), (1,), (2,), scale=Scale.odds(), weights=((3, 2), (5, 2)))
        self.assertEqual([half_paper(odds, ONE)[1], doubled_bound(odds, ONE), exact_keep(odds, ONE)], [(2, 0), (9, 4), (1,)])

    def test_two_hundred_rows(self):
        for scale in SCALES:
            for rules, most in ((TALKS, 14), (PLACES, 20), (Rules(ABCD, (("a",), ("b",)), (("b",), ("a", "c"))), 25)):
                table = some_table(rules.columns, 200, most, scale, 7)
                paper = half_paper(table, rules)
                self.assertGreater(len(list(conflicts(table, rules))), 500)
                self.assertIs(is_half_paper(table, rules, paper), True)
                near = near_keep(table, rules)
                self.assertIs(is_full(table, rules, near), True)
                self.assertFalse(scale.is_less(doubled_bound(table, rules), lost(table, near)))
                if chain(rules) is not None:
                    self.assertFalse(scale.is_less(scale.twice(least_loss(table, rules)), doubled_bound(table, rules)))


class PapersTest(Case):

    def test_papers_with_one_thing_otherwise(self):
        found = [(STOCK, PLACES, HALF), (ROWS, ONE, half_paper(ROWS, ONE)), (PLAN, TALKS, half_paper(PLAN, TALKS))]
        found += [(table, rules, half_paper(table, rules)) for table, rules in cases()[::9]]
        for table, rules, paper in found:
            self.assertIs(is_half_paper(table, rules, paper), True)
            for wrong in otherwise(paper):
                self.assertIs(is_half_paper(table, rules, wrong), right_paper(table, rules, wrong))

    def test_papers_by_others(self):
        """Halves with the least doubled loss are right with any flows that have the sum of it, in either direction."""
        several = 0
        for table, rules in cases() + [(Table.of(one.columns, one.rows, scale=one.scale), rules) for one, rules in cases()]:
            paper = half_paper(table, rules)
            turned = {(other, at): amount for (at, other), amount in paper[2].items()}
            backwards = dict(reversed(list(turned.items())))
            for halves in all_halves(table, rules):
                right = doubled(table, halves) == doubled(table, paper[1])
                several += right and halves != paper[1]
                for flows in (paper[2], turned, backwards):
                    self.assertIs(is_half_paper(table, rules, ("half", halves, flows)), right)
        self.assertGreater(several, 20)

    def test_flows_by_hand(self):
        for flows in ({(0, 1): 1, (1, 0): 1}, {(0, 2): 1, (1, 0): 1}, {(2, 0): 1, (0, 1): 1}, {(0, 2): 1, (2, 0): 1}):
            self.assertIs(is_half_paper(STOCK, PLACES, ("half", (2, 0, 0), flows)), True)
        for flows in ({(0, 1): 1, (0, 2): 1}, {(0, 1): 2}, {(1, 2): 1, (0, 1): 1}, {(0, 1): 1}, {}, {(0, 1): 1, (1, 0): 1, (0, 2): 0},
                      {(0, 1): 1, (1, 0): True}, {(False, 1): 1, (1, 0): 1}, {(0, 1): 1, (1, 0): 2, (2, 0): -1}, {(0, 0): 2},
                      {(0, 1, 1): 1, (1, 0): 1}, {0: 1, 1: 1}, {(0, 3): 1, (3, 0): 1}, [((0, 1), 1), ((1, 0), 1)], None):
            self.assertIs(is_half_paper(STOCK, PLACES, ("half", (2, 0, 0), flows)), False)
        flows = HALF[2]
        for halves in ((1, 1, 1), (2, 0), (2, 0, 0, 0), (0, 2, 2), (3, 0, 0), (2, False, 0), [2, 0, 0], (1, 1, 0), (2, 0, -1), None, 2):
            self.assertIs(is_half_paper(STOCK, PLACES, ("half", halves, flows)), False)
        many = Table(STOCK.columns, *STOCK.rows, weights=(3, 1, 1))
        for flows, right in (({(0, 1): 1, (0, 2): 1, (1, 0): 1, (2, 0): 1}, True), ({(0, 1): 2, (1, 0): 1, (2, 0): 1}, False)):
            self.assertIs(is_half_paper(many, PLACES, ("half", (0, 2, 2), flows)), right)

    def test_values_that_are_papers(self):
        self.accepts(lambda value: is_half_paper(STOCK, PLACES, value), [HALF],
                     [HALF, list(HALF), HALF[:2], HALF + ((),), ("Half",) + HALF[1:], ("half", {}, (2, 0, 0))])
        self.accepts(lambda value: is_half_paper(STOCK.only(), PLACES, value), [("half", (), {})])


class LimitsTest(Case):

    def crowd(self, many, lone=0):
        """Return a table whose rows all conflict, but for some without rivals, with its rules."""
        rules = Rules(("x", "y"), (("x",), ("y",)))
        rows = [(1, at) for at in range(many)] + [(2 + at, 1) for at in range(lone)]
        return Table(("x", "y"), *rows), rules

    def test_two_thousand_conflicts(self):
        # 63 rows of one value have 1953 conflicts, ten more have 45, and two more pairs make 2000.
        rules = Rules(("x", "y"), (("x",), ("y",)))
        rows = [(1, at) for at in range(63)] + [(2, at) for at in range(10)] + [(3, 1), (3, 2), (4, 1), (4, 2)]
        table = Table(("x", "y"), *rows)
        self.assertEqual(len(list(conflicts(table, rules))), 2000)
        paper = half_paper(table, rules)
        self.assertEqual([doubled_bound(table, rules), is_half_paper(table, rules, paper)], [77, True])
        self.assertEqual(settled(table, rules, paper)[0], tuple(at for at, half in enumerate(paper[1]) if half == 0))
        self.assertIs(is_full(table, rules, near_keep(table, rules)), True)
        more = table.with_row((5, 1)).with_row((5, 2))
        self.assertEqual(len(list(conflicts(more, rules))), 2001)
        half = ("half", (1,) * 79, {})
        for call in (half_paper, doubled_bound, near_keep):
            self.raises(TooMany, lambda: call(more, rules), limit=2000)
        # That the paper is none counts ahead of that.
        self.raises(InvalidOperation, lambda: settled(more, rules, half))
        circle = {(at, (at + 1) % 63): 1 for at in range(63)}
        circle.update({(63 + at, 63 + (at + 1) % 10): 1 for at in range(10)})
        circle.update({pair: 1 for at in (73, 75, 77) for pair in ((at, at + 1), (at + 1, at))})
        right = ("half", (1,) * 79, circle)
        self.assertIs(is_half_paper(more, rules, right), True)
        self.assertIs(is_half_paper(more, rules, ("half", (1,) * 78 + (0,), circle)), False)
        self.assertIs(is_half_paper(more, rules, half), False)
        self.raises(TooMany, lambda: settled(more, rules, right), limit=2000)

    def test_clusters_of_twenty_four_rows(self):
        table, rules = self.crowd(24, 9)
        self.assertEqual(exact_keep(table.weighted(5, 2), rules), (5,) + tuple(range(24, 33)))
        for many in (25, 26, 200):
            longer, rules = self.crowd(many)
            self.raises(TooMany, lambda: exact_keep(longer, rules), limit=24)
        longer, rules = self.crowd(25, 3)
        self.assertIsNotNone(chain(rules))
        self.raises(TooMany, lambda: exact_keep(longer, rules), limit=24)

    def test_large_clusters(self):
        for scale in SCALES:
            for rules, most in ((PLACES, 5), (problem_rules("triangles"), 4), (problem_rules("turn"), 3), (problem_rules("row"), 6)):
                for seed in range(4):
                    table = some_table(rules.columns, 24, most, scale, seed)
                    keep = exact_keep(table, rules)
                    self.assertIs(is_full(table, rules, keep), True)
                    self.assertFalse(scale.is_less(lost(table, near_keep(table, rules)), lost(table, keep)))
                    self.assertFalse(scale.is_less(scale.twice(lost(table, keep)), doubled_bound(table, rules)))
        for seed in range(3):
            table = some_table(TALKS.columns, 24, 4, SCALES[seed], seed)
            self.assertEqual(lost(table, exact_keep(table, TALKS)), least_loss(table, TALKS))

    def test_many_conflicts_in_small_clusters(self):
        rules = Rules(("x", "y"), (("x",), ("y",)))
        table = Table(("x", "y"), *[(at // 24, at) for at in range(200)])
        self.assertGreater(len(list(conflicts(table, rules))), 2000)
        self.assertEqual([len(one) for one in clusters(table, rules)], [24] * 8 + [8])
        self.assertEqual(len(exact_keep(table, rules)), 9)
        self.assertIs(is_keep(table, rules, exact_keep(table, rules)), True)


class WrongTest(Case):

    def test_wrong_tables_and_rules(self):
        self.checks_both(half_paper, doubled_bound, near_keep, exact_keep, lambda table, rules: is_half_paper(table, rules, None),
                         lambda table, rules: settled(table, rules, None))

    def test_wrong_papers(self):
        self.refuses(InvalidOperation, lambda value: settled(STOCK, PLACES, value), [HALF], more=[HALF, HALF[:2], ("half", (1, 1, 1), HALF[2])])
        self.assertEqual(settled(STOCK, PLACES, HALF), ((1, 2), (0,)))

    def test_nothing_changes(self):
        table, rules, paper = copy.deepcopy(STOCK), copy.deepcopy(PLACES), copy.deepcopy(HALF)
        is_half_paper(table, rules, paper), settled(table, rules, paper), near_keep(table, rules), exact_keep(table, rules)
        self.raises(InvalidOperation, lambda: settled(table, rules, ("half", (0, 0, 0), paper[2])))
        half_paper(table, rules)[2].clear()
        self.assertEqual((table, rules, paper), (STOCK, PLACES, HALF))
        self.assertIs(is_half_paper(table, rules, half_paper(table, rules)), True)
        self.assertEqual(doubled_bound(PLAN, NO_RULES), 0)

    def test_random_weights(self):
        chance = random.Random(9)
        for number in range(60):
            scale = SCALES[number % 3]
            table = some_table(PLACES.columns, 7, 3, scale, chance.randint(0, 10 ** 6))
            least = scale.least(*[doubled(table, halves) for halves in all_halves(table, PLACES)])
            self.assertEqual(doubled_bound(table, PLACES), least)
            self.assertIs(is_half_paper(table, PLACES, half_paper(table, PLACES)), True)


if __name__ == "__main__":
    unittest.main()
