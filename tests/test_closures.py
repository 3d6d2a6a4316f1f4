"""[5.1] to [5.3] and the module mostkept.rules.closures, with [0.11] and [0.13]."""

import copy
import itertools
import unittest

from mostkept.errors import InvalidColumns, InvalidOperation, InvalidRules, UnknownName
from mostkept.rules.closures import are_typical, closed_sets, closure, closure_of, follows, is_closed, is_rule_paper
from mostkept.rules.closures import rule_paper, triggers, typical_rows
from mostkept.rules.rules import Rules
from tests.helper import KNOWN, NAMES, NO_COLUMNS, NO_PLACES, NO_RULES, PLACES, TALKS, Case, exactly, values
from tests.search import all_rules, all_sets, holds, least_open, led, small_rules, some_rules

EXAMPLES = """
>>> [closure(TALKS, "talk"), closure(PLACES, "item"), triggers(TALKS), list(closed_sets(PLACES))]
[('hour', 'room', 'talk'), ('item', 'place'), (('hour', 'room'), ('talk',)), [(), ('place',), ('item', 'place'), ('place', 'team'), ('item', 'place', 'team')]]
>>> [follows(PLACES, (("item",), ("team",))), is_rule_paper(PLACES, (("item",), ("team",)), ("apart", (1, 1, 1), (1, 1, 2)))]
[False, True]
"""
EIGHT = tuple("abcdefgh")
ABC = ("a", "b", "c")
RULES = [TALKS, PLACES, NO_RULES, NO_COLUMNS, NO_PLACES]
RULE = [((), ("hour",)), ((), NAMES), (("hour",), ("hour",)), (("hour",), ("room",)),
        (("hour", "room"), ("talk",)), (("talk",), ("hour", "room"))]
CHAINED = Rules(("a", "b", "c", "d"), (("a",), ("b",)), (("b",), ("c",)), (("c",), ("a",)))


def many_rules():
    return small_rules() + some_rules(("a", "b", "c", "d"), 5, 30, 1) + some_rules(tuple("abcde"), 6, 10, 2)


class ClosuresTest(Case):

    def test_examples(self):
        self.examples(EXAMPLES, {**globals(), **KNOWN})

    def test_closures_and_closed_sets(self):
        for rules in many_rules():
            closed = [some for some in all_sets(rules.columns) if holds(rules, some)]
            self.assertEqual(list(closed_sets(rules)), closed)
            for some in all_sets(rules.columns):
                self.assertEqual(closure_of(rules, some), led(rules, some))
                self.assertEqual(closure(rules, *some), led(rules, some))
                self.assertIs(is_closed(rules, some), some in closed)
            for one, two in itertools.product(closed, repeat=2):
                self.assertIs(is_closed(rules, tuple(sorted(set(one) & set(two)))), True)
            self.assertIs(is_closed(rules, rules.columns), True)

    def test_columns_in_any_order_and_repeated(self):
        self.assertEqual(closure(CHAINED, "d", "b", "d"), ("a", "b", "c", "d"))
        self.assertEqual(closure_of(CHAINED, ("c", "c")), ABC)
        self.assertEqual(closure(NO_RULES, "talk", "hour", "talk"), ("hour", "talk"))
        self.assertEqual((closure(CHAINED), closure_of(NO_COLUMNS, ())), ((), ()))

    def test_closed_sets_of_eight_columns(self):
        self.assertEqual(list(closed_sets(Rules(EIGHT))), all_sets(EIGHT))
        self.assertEqual(list(closed_sets(Rules(EIGHT, ((), EIGHT)))), [EIGHT])
        self.assertEqual(list(closed_sets(NO_COLUMNS)), [()])

    def test_triggers(self):
        for rules in many_rules():
            self.assertEqual(triggers(rules), least_open(rules))
        self.assertEqual([triggers(NO_RULES), triggers(NO_COLUMNS), triggers(Rules(ABC, ((), ABC), (("a",), ("b",))))],
                         [(), (), ((),)])

    def test_behind_struck_columns(self):
        for rules in many_rules():
            for struck in all_sets(rules.columns):
                behind = rules.struck_all(struck)
                for some in all_sets(behind.columns):
                    wide = closure(rules, *some, *struck)
                    self.assertEqual(closure_of(behind, some), tuple(name for name in wide if name not in struck))

    def test_is_closed_accepts_all_values(self):
        self.accepts(lambda value: is_closed(TALKS, value), [(), ("hour",), NAMES])
        self.accepts(lambda value: is_closed(NO_RULES, value), [(), ("hour",), ("talk",), ("hour", "talk"), NAMES])
        self.accepts(lambda value: is_closed(NO_COLUMNS, value), [()])

    def test_wrong_arguments(self):
        self.refuses(InvalidRules, closure, RULES)
        self.refuses(InvalidRules, lambda value: closure_of(value, ()), RULES)
        self.refuses(InvalidRules, lambda value: is_closed(value, ()), RULES)
        self.refuses(InvalidRules, lambda value: next(closed_sets(value)), RULES)
        self.refuses(InvalidRules, triggers, RULES)
        for value in values():
            if not isinstance(value, tuple):
                self.raises(InvalidColumns, lambda: closure_of(TALKS, value))
            if not exactly(value, NAMES):
                self.raises(UnknownName, lambda: closure(TALKS, "hour", value, None), name=value)
                self.raises(UnknownName, lambda: closure_of(TALKS, (value,)), name=value)
        self.raises(InvalidRules, lambda: closure(None, "gone"))
        self.raises(InvalidRules, lambda: closure_of(None, None))
        self.raises(InvalidRules, lambda: is_closed((), None))

    def test_generators_raise_when_the_first_result_is_asked_for(self):
        found = closed_sets(None)
        self.raises(InvalidRules, lambda: next(found))


class FollowsTest(Case):

    def test_follows(self):
        for rules in many_rules():
            for left, right in all_rules(rules.columns):
                self.assertIs(follows(rules, (left, right)), set(right) <= set(led(rules, left)))
            self.assertTrue(all(follows(rules, rule) for rule in rules.rules))

    def test_papers_are_of_one_form(self):
        for rules in many_rules():
            for rule in all_rules(rules.columns):
                paper = rule_paper(rules, rule)
                self.assertEqual(paper[0], "derived" if follows(rules, rule) else "apart")
                self.assertIs(is_rule_paper(rules, rule, paper), True)
                if paper[0] == "derived":
                    self.assertTrue(all(one in rules.rules for one in paper[1]))

    def test_no_paper_of_the_other_form(self):
        for rules in [rules for rules in small_rules() if len(rules.columns) == 2]:
            for rule in all_rules(rules.columns):
                derived = [is_rule_paper(rules, rule, ("derived", used)) for many in range(4)
                           for used in itertools.product(rules.rules, repeat=many)]
                apart = [is_rule_paper(rules, rule, ("apart", (0, 0), row)) for row in itertools.product((0, 1), repeat=2)]
                self.assertEqual((any(derived), any(apart)), (follows(rules, rule), not follows(rules, rule)))

    def test_derived(self):
        rule = (("a",), ("c",))
        ab, bc, ca = CHAINED.rules

        def right(*used):
            return is_rule_paper(CHAINED, rule, ("derived", used))
        for used in ((ab, bc), (ab, ab, bc), (ab, bc, bc, ca, ab)):
            self.assertIs(right(*used), True)
        for used in ((), (ab,), (bc, ab), (bc,), (ca, ab, bc), (ab, bc, (("b",), ("d",))), (("a",), ("c",)), ((("a",), ("b", "c")),)):
            self.assertIs(right(*used), False)
        for used in ([ab, bc], None, (ab, list(bc)), (ab, None, bc), (ab, bc, True), ab):
            self.assertIs(is_rule_paper(CHAINED, rule, ("derived", used)), False)
        for paper in (["derived", (ab, bc)], ("derived",), ("derived", (ab, bc), ()), ("Derived", (ab, bc)), ("apart", (ab, bc))):
            self.assertIs(is_rule_paper(CHAINED, rule, paper), False)
        # What is there from the beginning needs no rule.
        self.assertIs(is_rule_paper(CHAINED, (("a", "d"), ("a",)), ("derived", ())), True)
        self.assertIs(is_rule_paper(CHAINED, (("a", "d"), ("d",)), ("derived", (ab,))), True)
        # A rule that follows can be plain or not: it must be one of the rules.
        twice = Rules(ABC, (("a",), ("b",)), (("a",), ("c",)))
        self.assertIs(is_rule_paper(twice, (("a",), ("b", "c")), ("derived", twice.plain)), False)
        self.assertIs(is_rule_paper(twice, (("a",), ("b", "c")), ("derived", twice.rules)), True)

    def test_apart(self):
        rule = (("a",), ("d",))

        def right(*rows):
            return is_rule_paper(CHAINED, rule, ("apart", *rows))
        for rows in (((0, 0, 0, 0), (0, 0, 0, 1)), ((7, -8, 9, 10 ** 40), (7, -8, 9, 3)), ((1, 1, 1, 2), (1, 1, 1, 1))):
            self.assertIs(right(*rows), True)
        for rows in (((0, 0, 0, 0), (0, 0, 0, 0)), ((0, 0, 0, 0), (1, 0, 0, 1)), ((0, 0, 0, 0), (0, 0, 1, 1)),
                     ((0, 0, 0, 0), (1, 1, 1, 1)), ((0, 0, 0, 0), (0, 0, 0)), ((0, 0, 0, 0), (0, 0, 0, 1, 2)),
                     ((0, 0, 0, 0), [0, 0, 0, 1]), ((0, 0, 0, False), (0, 0, 0, 1)), ((0, 0, 0, 0), (0, 0, 0, True)),
                     ((0, 0, 0, 0), (0, 0, 0, None)), ((0, 0, 0, 0),), ((0, 0, 0, 0), (0, 0, 0, 1), ()), ()):
            self.assertIs(right(*rows), False)
        self.assertIs(is_rule_paper(CHAINED, rule, ["apart", (0, 0, 0, 0), (0, 0, 0, 1)]), False)
        # One of the right columns is enough.
        self.assertIs(is_rule_paper(NO_RULES, (("hour",), ("hour", "room", "talk")), ("apart", (1, 1, 1), (1, 1, 2))), True)

    def test_values_that_are_papers(self):
        self.accepts(lambda value: is_rule_paper(TALKS, (("hour",), ("hour",)), value), [("derived", ())])
        self.accepts(lambda value: is_rule_paper(NO_RULES, (("hour",), ("talk",)), value), [("apart", (0, 0, 0), (0, 0, 1))])
        self.accepts(lambda value: is_rule_paper(TALKS, (("hour",), ("talk",)), value), [])

    def test_wrong_arguments(self):
        for call in (follows, rule_paper, lambda rules, rule: is_rule_paper(rules, rule, None)):
            for value in values():
                if not isinstance(value, Rules):
                    self.raises(InvalidRules, lambda: call(value, (("hour",), ("room",))))
            self.refuses(InvalidOperation, lambda value: call(TALKS, value), RULE)
            self.refuses(InvalidOperation, lambda value: call(NO_COLUMNS, value), [])
            self.raises(InvalidRules, lambda: call(None, None))


class TypicalTest(Case):

    def right(self, rules, rows):
        """Tell whether the rows are typical by the words of [5.3]."""
        columns = rules.columns

        def broken(left, right):
            return any(all(one[columns.index(name)] == two[columns.index(name)] for name in left)
                       and any(one[columns.index(name)] != two[columns.index(name)] for name in right)
                       for one, two in itertools.combinations(rows, 2))
        return all(set(right) <= set(led(rules, left)) or broken(left, right) for left, right in all_rules(columns)) \
            and not any(set(right) <= set(led(rules, left)) and broken(left, right) for left, right in all_rules(columns))

    def test_typical_rows(self):
        for rules in small_rules() + some_rules(("a", "b", "c", "d"), 5, 20, 1):
            rows = typical_rows(rules)
            self.assertTrue(self.right(rules, rows))
            self.assertIs(are_typical(rules, rows), True)
            self.assertTrue(all(type(row) is tuple and len(row) == len(rules.columns) for row in rows))

    def test_are_typical_by_search(self):
        for rules in [rules for rules in small_rules() if len(rules.columns) == 2][::3]:
            for many in range(4):
                for rows in itertools.combinations_with_replacement(itertools.product((0, 1, 2), (0, 1)), many):
                    self.assertIs(are_typical(rules, rows), self.right(rules, rows))

    def test_rows_left_out_and_put_in(self):
        for rules in small_rules()[::9]:
            rows = typical_rows(rules)
            for at in range(len(rows)):
                without = rows[:at] + rows[at + 1:]
                self.assertIs(are_typical(rules, without), self.right(rules, without))
            for row in itertools.product((0, 1), repeat=len(rules.columns)):
                self.assertIs(are_typical(rules, rows + (row,)), self.right(rules, rows + (row,)))
            self.assertIs(are_typical(rules, rows[::-1] + rows), True)

    def test_eight_columns(self):
        for rules in (Rules(EIGHT), Rules(EIGHT, ((), EIGHT)), *some_rules(EIGHT, 16, 4, 3)):
            rows = typical_rows(rules)
            self.assertLessEqual(len(rows), 200)
            self.assertIs(are_typical(rules, rows), True)
            self.assertIs(are_typical(rules, rows[1:]), len(rows) == 1 or all(is_closed_by(rules, rows[1:])))

    def test_no_columns(self):
        self.assertIs(are_typical(NO_COLUMNS, typical_rows(NO_COLUMNS)), True)
        for many in (0, 1, 2, 200):
            self.assertIs(are_typical(NO_COLUMNS, ((),) * many), True)
        self.assertIs(are_typical(NO_COLUMNS, ((),) * 201), False)

    def test_at_most_two_hundred_rows(self):
        rules = Rules(("a",), ((), ("a",)))
        self.assertIs(are_typical(rules, ((5,),) * 200), True)
        self.assertIs(are_typical(rules, ((5,),) * 201), False)
        self.assertIs(are_typical(Rules(("a",)), tuple((index,) for index in range(200))), True)
        self.assertIs(are_typical(Rules(("a",)), tuple((index,) for index in range(201))), False)

    def test_values_that_are_typical(self):
        self.accepts(lambda value: are_typical(Rules(("a",)), value), [])
        self.accepts(lambda value: are_typical(Rules(("a",), ((), ("a",))), value), [(), ((1,),)])
        self.assertIs(are_typical(Rules(("a",)), ((0,), (1,))), True)
        for wrong in (((0,), (True,)), ((0,), [1]), [(0,), (1,)], ((0,), (1, 1)), ((0,), (1,), None), ((0,), ("1",))):
            self.assertIs(are_typical(Rules(("a",)), wrong), False)

    def test_wrong_arguments(self):
        self.refuses(InvalidRules, typical_rows, RULES)
        self.refuses(InvalidRules, lambda value: are_typical(value, ()), RULES)

    def test_nothing_changes(self):
        rules = Rules(ABC, (("a",), ("b",)))
        before = copy.deepcopy(rules)
        closure(rules, "a"), typical_rows(rules), rule_paper(rules, (("a",), ("b",)))
        self.raises(UnknownName, lambda: closure(rules, "a", "z"), name="z")
        self.raises(InvalidOperation, lambda: rule_paper(rules, (("a",), ("z",))))
        self.assertEqual((rules, rules.plain), (before, before.plain))
        self.assertEqual(typical_rows(rules), typical_rows(before))


def is_closed_by(rules, rows):
    """Tell for each closed set whether it is what the rows that agree on it agree on."""
    agreed = [{name for name, here, there in zip(rules.columns, one, two) if here == there}
              for one, two in itertools.combinations(rows, 2)]
    for some in closed_sets(rules):
        yield set.intersection(set(rules.columns), *[one for one in agreed if set(some) <= one]) == set(some)


if __name__ == "__main__":
    unittest.main()
