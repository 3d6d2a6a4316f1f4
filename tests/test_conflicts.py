"""[7.1], [7.2] and the module mostkept.tables.conflicts, with [0.11] and [0.12]."""

import copy
import itertools
import unittest

from mostkept.base.scales import Scale
from mostkept.errors import InvalidKeep, InvalidNumber, InvalidOperation, InvalidRules, InvalidTable, TooMany
from mostkept.rules.rules import Rules
from mostkept.tables import conflicts as module
from mostkept.tables.conflicts import clusters, conflict_rule, conflicts, filled, full_keeps, full_paper, is_full
from mostkept.tables.conflicts import is_full_paper, is_keep, keeps, loss, rivals
from mostkept.tables.tables import Table
from tests.helper import KNOWN, NO_RULES, PLACES, PLAN, STOCK, TALKS, Case, exactly, values
from tests.search import SCALES, all_keeps, all_sets, clash, lost, small_rules, some_rules, some_table

EXAMPLES = """
>>> [list(conflicts(PLAN, TALKS)), rivals(PLAN, TALKS, 0), conflict_rule(PLAN, TALKS, 0, 3), clusters(STOCK, PLACES)]
[[(0, 1), (0, 3), (1, 2)], (1, 3), (('talk',), ('hour', 'room')), ((0, 1, 2),)]
>>> [list(full_keeps(PLAN, TALKS)), filled(PLAN, TALKS, (3,)), loss(PLAN, TALKS, (0, 2)), is_full(PLAN, TALKS, (2,))]
[[(0, 2), (1, 3), (2, 3)], (1, 3), 4, False]
"""
EMPTY = Table(("hour", "room", "talk"))
# Of the values of the helper the keeps of PLAN by TALKS, and by no rules.
KEEPS = [(), (0,), (1,), (2,), (0, 2), (1, 3), (2, 3)]
FREE_KEEPS = KEEPS + [(0, 1), (1, 2), (0, 3), (0, 2, 3), (0, 1, 2, 3)]
INDICES = [(0, 2), (1, 3), (2, 3), (2, 0), (0, 3), (0, 4), (0, 2, 3), (0, 2, 2), (0, -1)]


def cases():
    """Return small tables with rules."""
    found = []
    for number, rules in enumerate(small_rules()[1::5] + some_rules(("a", "b", "c", "d"), 5, 20, 1)):
        found.append((some_table(rules.columns, number % 7, 2 + number % 2, SCALES[number % 3], number), rules))
    return found


class ConflictsTest(Case):

    def test_examples(self):
        self.examples(EXAMPLES, {**globals(), **KNOWN})

    def test_constants(self):
        self.assertEqual(module.MAX_LISTED, 16)

    def test_conflicts_and_rivals(self):
        for table, rules in cases():
            expected = [(one, two) for one, two in itertools.combinations(range(len(table)), 2)
                        if clash(rules, table[one], table[two])]
            self.assertEqual(list(conflicts(table, rules)), expected)
            for index in range(len(table)):
                against = tuple(other for other in range(len(table))
                                if (index, other) in expected or (other, index) in expected)
                self.assertEqual(rivals(table, rules, index), against)

    def test_conflict_rules(self):
        for table, rules in cases():
            for one, two in itertools.product(range(len(table)), repeat=2):
                broken = [(left, right) for left, right in rules.rules
                          if all(table[one][rules.columns.index(name)] == table[two][rules.columns.index(name)]
                                 for name in left)
                          and any(table[one][rules.columns.index(name)] != table[two][rules.columns.index(name)]
                                  for name in right)]
                self.assertEqual(conflict_rule(table, rules, one, two), broken[0] if broken else None)

    def test_conflict_rules_are_the_rules_themselves(self):
        rules = Rules(("a", "b", "c"), (("a",), ("a", "b")), (("a",), ("c",)))
        table = Table(("a", "b", "c"), (1, 1, 1), (1, 2, 1), (1, 1, 2), (2, 2, 2))
        self.assertEqual([conflict_rule(table, rules, 0, other) for other in range(4)],
                         [None, (("a",), ("a", "b")), (("a",), ("c",)), None])
        self.assertEqual(conflict_rule(table, rules, 2, 1), (("a",), ("a", "b")))

    def test_clusters(self):
        for table, rules in cases():
            found = clusters(table, rules)
            self.assertEqual(sorted(index for cluster in found for index in cluster), list(range(len(table))))
            self.assertEqual(list(found), sorted(found))
            home = {index: number for number, cluster in enumerate(found) for index in cluster}
            for one, two in conflicts(table, rules):
                self.assertEqual(home[one], home[two])
            for cluster in found:
                self.assertEqual(cluster, tuple(sorted(cluster)))
                for some in all_sets(cluster)[1:-1]:
                    self.assertTrue(any(clash(rules, table[one], table[two]) for one in some
                                        for two in set(cluster) - set(some)))
        self.assertEqual([clusters(PLAN, TALKS), clusters(EMPTY, TALKS), clusters(PLAN, NO_RULES)],
                         [((0, 1, 2, 3),), (), ((0,), (1,), (2,), (3,))])

    def test_a_long_cluster(self):
        # Each row conflicts with those before and behind it.
        columns, rules = ("a", "b", "c"), Rules(("a", "b", "c"), (("a",), ("c",)), (("b",), ("c",)))
        rows = [(index // 2, (index + 1) // 2, index) for index in range(200)]
        order = [index * 77 % 200 for index in range(200)]
        table = Table(columns, *[rows[index] for index in order])
        self.assertEqual(clusters(table, rules), (tuple(range(200)),))
        self.assertEqual(len(list(conflicts(table, rules))), 199)
        self.assertEqual(clusters(table.without(order.index(100)), rules),
                         tuple(sorted([tuple(at for at, index in enumerate(one for one in order if one != 100) if index < 100),
                                       tuple(at for at, index in enumerate(one for one in order if one != 100) if index > 100)])))

    def test_two_hundred_rows(self):
        table = Table(("a", "b"), *[(index % 2, index) for index in range(200)])
        rules = Rules(("a", "b"), (("a",), ("b",)))
        self.assertEqual(len(list(conflicts(table, rules))), 9900)
        self.assertEqual([len(one) for one in clusters(table, rules)], [100, 100])
        self.assertEqual(filled(table, rules, (4,)), (1, 4))
        self.assertIs(is_keep(table, Rules(("a", "b")), tuple(range(200))), True)


class KeepsTest(Case):

    def test_keeps_and_full_keeps(self):
        for table, rules in cases():
            expected = all_keeps(table, rules)
            full = [keep for keep in expected if not any(set(keep) < set(other) for other in expected)]
            self.assertEqual(list(keeps(table, rules)), expected)
            self.assertEqual(list(full_keeps(table, rules)), full)
            for keep in expected:
                self.assertIs(is_full(table, rules, keep), keep in full)
                self.assertEqual(loss(table, rules, keep), lost(table, keep))
                grown = list(keep)
                for index in range(len(table)):
                    if index not in grown and not any(clash(rules, table[index], table[one]) for one in grown):
                        grown.append(index)
                self.assertEqual(filled(table, rules, keep), tuple(sorted(grown)))
                self.assertIn(filled(table, rules, keep), full)
            for some in all_sets(range(len(table))):
                self.assertIs(is_keep(table, rules, some), some in expected)

    def test_filled_takes_the_first_rows(self):
        table = Table(("a", "b"), (1, 1), (1, 2), (2, 1), (1, 1), (2, 2), (3, 1))
        rules = Rules(("a", "b"), (("a",), ("b",)))
        self.assertEqual([filled(table, rules, keep) for keep in ((), (1,), (4,), (3,), (1, 4))],
                         [(0, 2, 3, 5), (1, 2, 5), (0, 3, 4, 5), (0, 2, 3, 5), (1, 4, 5)])

    def test_no_rows(self):
        self.assertEqual([list(keeps(EMPTY, TALKS)), list(full_keeps(EMPTY, TALKS)), list(conflicts(EMPTY, TALKS))],
                         [[()], [()], []])
        self.assertEqual([filled(EMPTY, TALKS, ()), loss(EMPTY, TALKS, ()), full_paper(EMPTY, TALKS, ())],
                         [(), 0, ("full", {})])
        self.assertEqual(loss(Table(EMPTY.columns, scale=Scale.odds()), TALKS, ()), (1, 1))

    def test_sixteen_rows(self):
        table = Table(("a", "b"), *[(index // 2, index) for index in range(16)])
        rules = Rules(("a", "b"), (("a",), ("b",)))
        self.assertEqual(len(list(keeps(table, rules))), 3 ** 8)
        self.assertEqual(len(list(full_keeps(table, rules))), 2 ** 8)
        self.assertEqual(list(full_keeps(table, Rules(("a", "b")))), [tuple(range(16))])
        more = table.with_row((20, 20))
        for generator in (keeps, full_keeps):
            found = generator(more, rules)
            self.raises(TooMany, lambda: next(found), limit=16)
            self.raises(InvalidOperation, lambda: next(generator(more, NO_RULES)))

    def test_values_that_are_keeps(self):
        self.accepts(lambda value: is_keep(PLAN, TALKS, value), KEEPS, INDICES)
        self.accepts(lambda value: is_keep(PLAN, NO_RULES, value), FREE_KEEPS, INDICES)
        self.accepts(lambda value: is_keep(EMPTY, TALKS, value), [()], INDICES)

    def test_wrong_keeps(self):
        for call in (is_full, filled, loss, full_paper, lambda table, rules, keep: is_full_paper(table, rules, keep, None)):
            self.refuses(InvalidKeep, lambda value: call(PLAN, TALKS, value), KEEPS, more=INDICES)
            self.refuses(InvalidKeep, lambda value: call(PLAN, NO_RULES, value), FREE_KEEPS, more=INDICES)

    def test_wrong_tables_and_rules(self):
        for call in (is_keep, is_full, filled, loss, full_paper, rivals,
                     lambda table, rules, _: next(conflicts(table, rules)),
                     lambda table, rules, _: next(keeps(table, rules)),
                     lambda table, rules, _: next(full_keeps(table, rules)),
                     lambda table, rules, _: clusters(table, rules),
                     lambda table, rules, _: conflict_rule(table, rules, None, None),
                     lambda table, rules, _: is_full_paper(table, rules, None, None)):
            for value in values():
                if not isinstance(value, Table):
                    self.raises(InvalidTable, lambda: call(value, TALKS, None))
                    self.raises(InvalidTable, lambda: call(value, None, None))
                if not isinstance(value, Rules):
                    self.raises(InvalidRules, lambda: call(PLAN, value, None))
            self.raises(InvalidOperation, lambda: call(PLAN, PLACES, None))
            self.raises(InvalidOperation, lambda: call(STOCK, TALKS, None))
            self.raises(InvalidOperation, lambda: call(PLAN, Rules(()), None))

    def test_wrong_indices(self):
        for value in values():
            if not exactly(value, [0, 1, 2, 3]):
                self.raises(InvalidNumber, lambda: rivals(PLAN, TALKS, value), value=value)
                self.raises(InvalidNumber, lambda: conflict_rule(PLAN, TALKS, value, None), value=value)
                self.raises(InvalidNumber, lambda: conflict_rule(PLAN, TALKS, 0, value), value=value)
        self.raises(InvalidNumber, lambda: rivals(EMPTY, TALKS, 0), value=0)

    def test_generators_raise_when_the_first_result_is_asked_for(self):
        for generator in (conflicts, keeps, full_keeps):
            for table, rules, error in ((None, None, InvalidTable), (PLAN, None, InvalidRules), (PLAN, PLACES, InvalidOperation)):
                found = generator(table, rules)
                self.raises(error, lambda: next(found))

    def test_nothing_changes(self):
        table, rules = copy.deepcopy(PLAN), copy.deepcopy(TALKS)
        list(full_keeps(table, rules)), full_paper(table, rules, (0,)), clusters(table, rules)
        self.raises(InvalidKeep, lambda: filled(table, rules, (0, 1)))
        self.raises(InvalidNumber, lambda: rivals(table, rules, 4), value=4)
        paper = ("full", {3: 0, 1: 0})
        self.assertIs(is_full_paper(table, rules, (0, 2), paper), True)
        self.raises(InvalidKeep, lambda: is_full_paper(table, rules, [0, 2], paper))
        self.assertEqual(list(paper[1].items()), [(3, 0), (1, 0)])
        self.assertEqual((table, rules, rules.plain), (PLAN, TALKS, TALKS.plain))


class FullPapersTest(Case):

    def test_papers_are_of_one_kind(self):
        for table, rules in cases():
            for keep in all_keeps(table, rules):
                paper = full_paper(table, rules, keep)
                self.assertEqual(paper[0], "full" if is_full(table, rules, keep) else "open")
                self.assertIs(is_full_paper(table, rules, keep, paper), True)
                if paper[0] == "full":
                    self.assertEqual(list(paper[1]), [index for index in range(len(table)) if index not in keep])

    def test_all_papers_by_search(self):
        for table, rules in cases()[::4]:
            indices = range(min(len(table), 4))
            table = table.only(*indices)
            for keep in all_keeps(table, rules):
                others = [index for index in indices if index not in keep]
                against = {index: [other for other in keep if clash(rules, table[index], table[other])] for index in indices}
                for some in all_sets(indices):
                    for found in itertools.product(indices, repeat=len(some)):
                        right = list(some) == others and all(other in against[index] for index, other in zip(some, found))
                        self.assertIs(is_full_paper(table, rules, keep, ("full", dict(zip(some, found)))), right)
                for index in range(-1, len(table) + 1):
                    right = index in others and not against[index]
                    self.assertIs(is_full_paper(table, rules, keep, ("open", index)), right)

    def test_papers_with_one_thing_otherwise(self):
        def right(*paper):
            return is_full_paper(PLAN, TALKS, (0, 2), paper)
        for found in ({1: 0, 3: 0}, {3: 0, 1: 0}, {1: 2, 3: 0}):
            self.assertIs(right("full", found), True)
        for found in ({1: 0}, {3: 0}, {}, {1: 0, 3: 2}, {1: 0, 3: 0, 2: 0}, {0: 1, 1: 0, 3: 0}, {1: 0, 3: 0, 4: 0},
                      {1: 3, 3: 0}, {True: 0, 3: 0}, {1: False, 3: 0}, {1: 0, 3: 0, "a": 0}, {1: 0, 3: None}, {1: 0, 3: (0,)},
                      {1: 0, 3: 4}, {1: 0, 3: -4}, {1: 0, (3,): 0}, {None: 0, 3: 0}, [1, 3], ((1, 0), (3, 0)), None):
            self.assertIs(right("full", found), False)
        for paper in (("open", 1), ("open", 3), ("open", {1: 0, 3: 0}), ("full",), ("full", {1: 0, 3: 0}, ()),
                      ("Full", {1: 0, 3: 0}), (1, {1: 0, 3: 0}), ("full", 1)):
            self.assertIs(right(*paper), False)
        self.assertIs(is_full_paper(PLAN, TALKS, (0, 2), ["full", {1: 0, 3: 0}]), False)
        self.assertIs(is_full_paper(PLAN, TALKS, (2,), ("open", 0)), True)
        for index in (1, 2, 4, -1, False, None, (0,), -4):
            self.assertIs(is_full_paper(PLAN, TALKS, (2,), ("open", index)), False)
        self.assertIs(is_full_paper(PLAN, TALKS, (0,), ("open", True)), False)
        self.assertIs(is_full_paper(PLAN, NO_RULES, (0, 2, 3), ("open", True)), False)

    def test_values_that_are_papers(self):
        self.accepts(lambda value: is_full_paper(PLAN, TALKS, (0, 2), value), [("full", {1: 0, 3: 0})])
        self.accepts(lambda value: is_full_paper(PLAN, NO_RULES, (0, 2, 3), value), [("open", 1)])
        self.accepts(lambda value: is_full_paper(PLAN, NO_RULES, (0, 1, 2, 3), value), [("full", {})])

    def test_a_paper_gives_no_access(self):
        paper = full_paper(PLAN, TALKS, (0, 2))
        paper[1].clear()
        self.assertEqual(full_paper(PLAN, TALKS, (0, 2)), ("full", {1: 0, 3: 0}))


if __name__ == "__main__":
    unittest.main()
