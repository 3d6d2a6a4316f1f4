"""[16.1], [16.2] and the module mostkept.live.advice."""

import copy
import itertools
import unittest

from mostkept.errors import InvalidColumns, InvalidOperation, TooMany
from mostkept.keeps.greatest import greatest_keep, least_loss
from mostkept.live.advice import cheapest_selection, group_losses, is_loosening, least_dropped, loose_selections
from mostkept.live.advice import loosening_sets, rule_prices
from mostkept.orders.chains import chain
from mostkept.orders.witnesses import small_rules as problem_rules
from mostkept.rules.rules import Rules
from tests.helper import KNOWN, NO_COLUMNS, NO_RULES, PLACES, PLAN, STOCK, TALKS, Case
from tests.search import SCALES, all_chains, all_keeps, all_rules, all_sets, lost, small_rules, some_rules, some_table

EXAMPLES = """
>>> [[one.rules for one in loose_selections(PLACES)], least_dropped(PLACES), rule_prices(STOCK, PLACES)]
[[((('item',), ('place',)),), ((('team',), ('place',)),)], 1, {(('item',), ('place',)): 1, (('team',), ('place',)): 1}]
>>> [list(loosening_sets(PLACES)), list(loosening_sets(TALKS)), group_losses(STOCK, PLACES, ("item",)), cheapest_selection(STOCK, PLACES)[1]]
[[('item',), ('place',), ('team',)], [()], {(1,): 1, (2,): 0}, 1]
"""
ABCD, EIGHT = ("a", "b", "c", "d"), tuple("abcdefgh")
# All three have a chain, without the last one there is none.
WHOLE = Rules(("a", "b", "c"), (("a",), ("b",)), (("b",), ("c",)), ((), ("a", "b", "c")))


def some():
    """Return rules of all kinds, among them ones over four columns with up to six rules."""
    return small_rules()[::9] + some_rules(ABCD, 5, 30, 31) + some_rules(("a", "b", "c"), 6, 20, 32) + [
        TALKS, PLACES, NO_RULES, NO_COLUMNS, WHOLE] + [problem_rules(one) for one in ("labels", "row", "turn", "triangles")]


def is_loose(rules):
    return bool(all_chains(rules))


def loose_sets(rules):
    """Return the rules of the greatest loose selections, in their order, by a search over all selections."""
    found = [chosen for chosen in all_sets(rules.rules) if is_loose(Rules.of(rules.columns, chosen))]
    greatest = [one for one in found if not any(set(one) < set(other) for other in found)]
    return sorted(greatest, key=lambda one: (-len(one), one))


def least(table, rules):
    return table.scale.least(*[lost(table, keep) for keep in all_keeps(table, rules)])


class SelectionsTest(Case):

    def test_examples(self):
        self.examples(EXAMPLES, {**globals(), **KNOWN})

    def test_loose_selections_by_search(self):
        several = 0
        for rules in some():
            wanted = loose_sets(rules)
            several += len(wanted) > 1
            self.assertEqual([one.rules for one in loose_selections(rules)], wanted)
            self.assertTrue(all(one.columns == rules.columns for one in loose_selections(rules)))
            self.assertEqual(least_dropped(rules), len(rules) - len(wanted[0]))
        self.assertGreater(several, 15)

    def test_a_selection_of_a_loose_selection_need_not_be_loose(self):
        part = Rules.of(WHOLE.columns, tuple(rule for rule in WHOLE.rules if rule[0] != ()))
        self.assertEqual([chain(part), chain(WHOLE) is None], [None, False])
        self.assertEqual([list(loose_selections(WHOLE)), least_dropped(WHOLE)], [[WHOLE], 0])
        self.assertEqual(least_dropped(part), 1)

    def test_eight_and_nine_rules(self):
        eight = some_rules(EIGHT, 8, 300, 5)
        eight = [rules for rules in eight if len(rules) == 8 and chain(rules) is None][:3]
        self.assertEqual(len(eight), 3)
        for rules in eight:
            found = list(loose_selections(rules))
            self.assertGreater(len(found), 0)
            for one in found:
                self.assertIsNotNone(chain(one))
                self.assertLessEqual(set(one.rules), set(rules.rules))
            self.assertEqual(least_dropped(rules), 8 - len(found[0]))
            nine = rules.with_rule(("a",), ("a",))
            self.assertEqual(len(nine), 9)
            self.raises(TooMany, lambda: next(loose_selections(nine)), limit=8)
            self.raises(TooMany, lambda: least_dropped(nine), limit=8)
            table = some_table(EIGHT, 9, 2, SCALES[0], 2)
            self.raises(TooMany, lambda: cheapest_selection(table, nine), limit=8)
            self.assertEqual(len(rule_prices(table, nine)), 9)
        # The limit counts although the rules have a chain.
        chained = Rules(EIGHT, *[(("a",), (name,)) for name in EIGHT], (("a",), ("b", "c")))
        self.assertEqual([len(chained), chain(chained) is None], [9, False])
        self.raises(TooMany, lambda: least_dropped(chained), limit=8)

    def test_sixteen_rules(self):
        rules = Rules(("a", "b", "c"), *all_rules(("a", "b", "c"))[10:26])
        self.assertEqual(len(rules), 16)
        table = some_table(rules.columns, 6, 2, SCALES[2], 3)
        for rule, price in rule_prices(table, rules).items():
            others = rules.without_rule(*rule)
            self.assertEqual(price, least(table, others) if is_loose(others) else None)


class LooseningTest(Case):

    def test_by_search(self):
        smaller = 0
        for rules in some():
            wanted = [one for one in all_sets(rules.columns) if is_loose(rules.struck(*one))]
            for one in all_sets(rules.columns):
                self.assertIs(is_loosening(rules, one), one in wanted)
            for one, name in itertools.product(wanted, rules.columns):
                self.assertIn(tuple(sorted({*one, name})), wanted)
            minimal = [one for one in wanted if not any(set(other) < set(one) for other in wanted)]
            self.assertEqual(list(loosening_sets(rules)), sorted(minimal, key=lambda one: (len(one), one)))
            smaller += minimal != [()]
        self.assertGreater(smaller, 15)

    def test_values_that_loosen(self):
        self.accepts(lambda value: is_loosening(PLACES, value), [("item",), ("place",), ("team",), ("item", "place"), PLACES.columns],
                     [("item",), ("place",), ("team",), ("item", "place"), ("place", "item"), ["item"], ("item", "item"), PLACES.columns])
        self.accepts(lambda value: is_loosening(TALKS, value), [(), ("hour",), ("talk",), ("hour", "talk"), TALKS.columns])
        self.accepts(lambda value: is_loosening(NO_COLUMNS, value), [()])

    def test_eight_columns(self):
        for rules in some_rules(EIGHT, 6, 8, 9):
            found = list(loosening_sets(rules))
            self.assertEqual(found == [()], chain(rules) is not None)
            self.assertTrue(all(is_loosening(rules, one) for one in found))


class LossesTest(Case):

    def test_group_losses_by_search(self):
        for number, rules in enumerate(some()):
            if not rules.columns:
                continue
            table = some_table(rules.columns, number % 8, 2, SCALES[number % 3], number)
            for columns in all_sets(rules.columns):
                if not is_loose(rules.struck(*columns)):
                    self.raises(InvalidOperation, lambda: group_losses(table, rules, columns))
                    continue
                found = group_losses(table, rules, columns)
                wanted = {values: least(table.only_all(rows), rules) for values, rows in table.grouped(columns).items()}
                self.assertEqual(list(found.items()), list(wanted.items()))
                together = table.scale.plus(*found.values())
                self.assertFalse(table.scale.is_less(least(table, rules), together))

    def test_group_losses_by_hand(self):
        self.assertEqual(group_losses(STOCK, PLACES, PLACES.columns), {(1, 1, 1): 0, (1, 2, 2): 0, (2, 2, 1): 0})
        self.assertEqual(group_losses(STOCK, PLACES, ("place",)), {(1,): 0, (2,): 0})
        self.assertEqual(group_losses(PLAN, TALKS, ()), {(): 4})
        self.assertEqual(group_losses(PLAN, TALKS, ("room",)), {(1,): 3, (2,): 0})
        self.assertEqual(group_losses(PLAN.only(), TALKS, ()), {})
        two = STOCK | STOCK
        self.assertEqual(group_losses(two, PLACES, ("item",)), {(1,): 2, (2,): 0})

    def test_rule_prices_by_search(self):
        chainless = 0
        for number, rules in enumerate(some()):
            if not rules.columns:
                continue
            table = some_table(rules.columns, number % 7, 2, SCALES[number % 3], number)
            found = rule_prices(table, rules)
            self.assertEqual(list(found), list(rules.rules))
            for rule, price in found.items():
                others = rules.without_rule(*rule)
                self.assertEqual(price, least(table, others) if is_loose(others) else None)
                chainless += price is None
        self.assertGreater(chainless, 15)

    def test_cheapest_selections_by_search(self):
        for number, rules in enumerate(some()):
            if not rules.columns:
                continue
            table = some_table(rules.columns, number % 8, 2, SCALES[number % 3], number)
            selection, loss = cheapest_selection(table, rules)
            losses = {chosen: least(table, Rules.of(rules.columns, chosen)) for chosen in loose_sets(rules)}
            self.assertEqual([selection.columns, losses[selection.rules]], [rules.columns, loss])
            self.assertEqual(loss, table.scale.least(*losses.values()))
            self.assertFalse(table.scale.is_less(least(table, rules), loss))

    def test_two_hundred_rows(self):
        for scale in SCALES:
            table = some_table(PLACES.columns, 200, 15, scale, 1)
            losses = group_losses(table, PLACES, ("item",))
            self.assertEqual(list(losses), list(table.grouped(("item",))))
            selection, loss = cheapest_selection(table, PLACES)
            self.assertEqual(least_loss(table, selection), loss)
            self.assertEqual(scale.least(*rule_prices(table, PLACES).values()), loss)
            self.assertEqual(len(greatest_keep(table, selection)) > 0, True)


class WrongTest(Case):

    def test_wrong_tables_and_rules(self):
        self.checks_both(lambda table, rules: group_losses(table, rules, None), rule_prices, cheapest_selection)
        for call in (lambda rules: next(loose_selections(rules)), least_dropped, lambda rules: is_loosening(rules, None),
                     lambda rules: next(loosening_sets(rules))):
            self.checks_rules(call)

    def test_wrong_columns(self):
        right = [(), ("hour",), ("talk",), ("hour", "talk"), PLAN.columns]
        self.refuses(InvalidColumns, lambda value: group_losses(PLAN, TALKS, value), right, more=[("room", "hour"), ["hour"], ("day",)])
        self.raises(InvalidColumns, lambda: group_losses(STOCK, PLACES, ("room",)))
        self.raises(InvalidOperation, lambda: group_losses(STOCK, PLACES, ()))

    def test_generators_raise_when_the_first_result_is_asked_for(self):
        for found in (loose_selections(None), loosening_sets(None)):
            self.assertRaises(ValueError, lambda: next(found))

    def test_nothing_changes(self):
        table, rules = copy.deepcopy(STOCK), copy.deepcopy(PLACES)
        rule_prices(table, rules).clear(), group_losses(table, rules, ("item",)).clear(), cheapest_selection(table, rules)
        list(loose_selections(rules)), list(loosening_sets(rules)), is_loosening(rules, ("item",))
        self.raises(InvalidOperation, lambda: group_losses(table, rules, ()))
        self.assertEqual((table, rules), (STOCK, PLACES))
        self.assertEqual(group_losses(table, rules, ("item",)), {(1,): 1, (2,): 0})


if __name__ == "__main__":
    unittest.main()
