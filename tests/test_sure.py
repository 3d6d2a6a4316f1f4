"""[12.1] to [12.3] and the module mostkept.keeps.sure."""

import copy
import itertools
import random
import unittest

from mostkept.base.scales import Scale
from mostkept.errors import InvalidNumber, InvalidOperation
from mostkept.keeps.greatest import greatest_keep, is_keep_paper, keep_paper, least_loss
from mostkept.keeps.sure import greatest_with, is_row_paper, loss_with, row_kind, row_kinds, row_paper, row_prices
from mostkept.orders.chains import chain, chains
from mostkept.rules.rules import Rules
from mostkept.tables.conflicts import rivals
from mostkept.tables.tables import Table
from tests.helper import KNOWN, NO_PLACES, NO_RULES, PLACES, PLAN, STOCK, TALKS, Case, otherwise, plain, values
from tests.search import SCALES, all_keeps, lost, small_rules, some_rules, some_table

EXAMPLES = """
>>> [row_kinds(PLAN, TALKS), row_prices(PLAN, TALKS, 0), row_prices(PLAN, TALKS, 3), loss_with(PLAN, TALKS, stay=(3,), go=(1,))]
[('sure', 'lost', 'sure', 'lost'), (0, 1), (1, 0), 5]
>>> [greatest_with(PLAN, TALKS, stay=(1,)), greatest_with(PLAN, TALKS, stay=(0, 1)), row_paper(PLAN, TALKS, 2)[0]]
[(1, 3), None, 'sure']
"""
ABCD = ("a", "b", "c", "d")
ONE = Rules(("x",), ((), ("x",)))
DAILY = Rules(("day", "room", "talk"), (("day", "room"), ("talk",)), (("day", "talk"), ("room",)))
SIDES = [(), (0,), (1,), (2,), (0, 1)]


def chained():
    """Return rules of all kinds that have a chain."""
    found = small_rules()[1::5] + some_rules(ABCD, 4, 40, 12) + [TALKS, DAILY, ONE]
    return [rules for rules in found if chain(rules) is not None]


def even(table):
    """Return the table in which all rows have one weight, so that many keeps are greatest."""
    return Table.of(table.columns, table.rows, scale=table.scale)


def cases():
    """Return tables in all scales with rules that have a chain; every third table has rows of one weight."""
    found = [(some_table(rules.columns, number % 7, 2 + number % 2, SCALES[number % 3], number), rules)
             for number, rules in enumerate(chained())]
    return [(even(table) if number % 5 == 0 else table, rules) for number, (table, rules) in enumerate(found)]


def following(table, rules, stay, go):
    return [keep for keep in all_keeps(table, rules) if set(stay) <= set(keep) and not set(go) & set(keep)]


def least(table, found):
    return table.scale.least(*[lost(table, keep) for keep in found])


def greatest_ones(table, rules):
    found = all_keeps(table, rules)
    return [keep for keep in found if lost(table, keep) == least(table, found)]


def some_wishes(table, chance):
    sides = [tuple(sorted(chance.sample(range(len(table)), min(many, len(table))))) for many in (0, 0, 1, 1, 2, 3)]
    return [(chance.choice(sides), chance.choice(sides)) for _ in range(6)]


class WishTest(Case):

    def test_examples(self):
        self.examples(EXAMPLES, {**globals(), **KNOWN})

    def test_wishes_by_search(self):
        chance = random.Random(1)
        followed = []
        for table, rules in cases():
            for stay, go in some_wishes(table, chance):
                found = following(table, rules, stay, go)
                followed.append(bool(found))
                keep = greatest_with(table, rules, stay=stay, go=go)
                if not found:
                    self.assertIsNone(keep)
                    self.assertIsNone(loss_with(table, rules, go=go, stay=stay))
                    continue
                self.assertIn(keep, found)
                self.assertEqual(lost(table, keep), least(table, found))
                self.assertEqual(loss_with(table, rules, stay=stay, go=go), least(table, found))
        self.assertGreater(followed.count(True), 100)
        self.assertGreater(followed.count(False), 30)

    def test_wishes_that_no_keep_follows(self):
        for stay, go in (((0, 1), ()), ((0, 3), ()), ((1, 2), (3,)), ((2,), (2,)), ((0, 2), (0, 1, 2, 3)), ((1, 3), (3,))):
            self.assertIsNone(greatest_with(PLAN, TALKS, stay=stay, go=go))
            self.assertIsNone(loss_with(PLAN, TALKS, stay=stay, go=go))

    def test_wishes_for_all_or_none(self):
        for scale in SCALES:
            table = Table(("x",), (1,), (2,), scale=scale)
            self.assertEqual(greatest_with(table, ONE, go=(0, 1)), ())
            self.assertEqual(loss_with(table, ONE, go=(0, 1)), scale.twice(scale.one))
            self.assertEqual(loss_with(table, ONE, stay=(0,), go=(1,)), scale.one)
            empty = Table(("x",), scale=scale)
            self.assertEqual([greatest_with(empty, ONE), loss_with(empty, ONE), row_kinds(empty, ONE)], [(), scale.zero, ()])
        self.assertEqual(greatest_with(PLAN, NO_RULES, stay=(0,), go=(1, 2)), (0, 3))
        self.assertEqual(greatest_with(PLAN, TALKS), greatest_keep(PLAN, TALKS))
        self.assertEqual(loss_with(PLAN, TALKS), least_loss(PLAN, TALKS))

    def test_two_hundred_rows(self):
        for scale in SCALES:
            table = some_table(TALKS.columns, 200, 40, scale, 3)
            kinds = row_kinds(table, TALKS)
            keep = greatest_keep(table, TALKS)
            self.assertEqual(len(kinds), 200)
            for index in range(0, 200, 23):
                self.assertEqual(kinds[index], row_kind(table, TALKS, index))
                self.assertIn(kinds[index], ("sure", "open") if index in keep else ("open", "lost"))
                self.assertIs(is_row_paper(table, TALKS, index, row_paper(table, TALKS, index)), True)
            self.assertIs(set(greatest_with(table, TALKS, go=keep[:5])) & set(keep[:5]) == set(), True)


class RowTest(Case):

    def test_prices_and_kinds_by_search(self):
        words = []
        for table, rules in cases():
            kinds = row_kinds(table, rules)
            self.assertEqual(len(kinds), len(table))
            found = greatest_ones(table, rules)
            for index in range(len(table)):
                here = [index in keep for keep in found]
                word = "sure" if all(here) else "open" if any(here) else "lost"
                words.append(word)
                self.assertEqual([kinds[index], row_kind(table, rules, index)], [word, word])
                all_losses = least(table, all_keeps(table, rules))
                with_it = least(table, following(table, rules, (index,), ()))
                without_it = least(table, following(table, rules, (), (index,)))
                prices = (table.scale.minus(with_it, all_losses), table.scale.minus(without_it, all_losses))
                self.assertEqual(row_prices(table, rules, index), prices)
                self.assertIn(table.scale.zero, prices)
        for word in ("sure", "open", "lost"):
            self.assertGreater(words.count(word), 20)

    def test_rows_by_hand(self):
        for scale in SCALES:
            # A row that conflicts with all others, and some that are alike in weight.
            table = Table(("x",), (1,), (2,), (2,), (2,), scale=scale)
            self.assertEqual(row_kinds(table, ONE), ("lost", "sure", "sure", "sure"))
            table = Table(("x",), (1,), (2,), (3,), scale=scale)
            self.assertEqual(row_kinds(table, ONE), ("open",) * 3)
            self.assertEqual(row_prices(table, ONE, 1), (scale.zero, scale.zero))
            self.assertEqual(row_kinds(table.only(2), ONE), ("sure",))
            self.assertEqual(row_prices(table.only(2), ONE, 0), (scale.zero, scale.one))
        heavy = Table(("x",), (1,), (2,), (3,), weights=(2, 2, 5))
        self.assertEqual([row_prices(heavy, ONE, 0), row_prices(heavy, ONE, 2)], [(3, 0), (0, 3)])
        self.assertEqual(row_kinds(PLAN, NO_RULES), ("sure",) * 4)

    def test_a_row_in_some_greatest_keep(self):
        # [0.17]: it need not be in the one that a keep paper tells.
        table = Table(("x",), (1,), (2,))
        self.assertEqual(row_kinds(table, ONE), ("open", "open"))
        self.assertEqual(len(keep_paper(table, ONE)[1]), 1)

    def test_papers_are_right(self):
        for table, rules in cases():
            for index in range(len(table)):
                paper = row_paper(table, rules, index)
                self.assertEqual(paper[0], row_kind(table, rules, index))
                self.assertIs(is_row_paper(table, rules, index, paper), True)
                self.assertIs(self.right_paper(table, rules, index, paper), True)

    def right_paper(self, table, rules, index, value):
        """Return whether the value is a row paper by the words of [12.3]."""
        if not isinstance(value, tuple) or not value or value[0] not in ("sure", "lost", "open"):
            return False
        if len(value) != (4 if value[0] == "open" else 3) or not is_keep_paper(table, rules, value[1]):
            return False
        most = table.amount_of(value[1][1])
        if value[0] == "open":
            found = all_keeps(table, rules)
            if not all(isinstance(keep, tuple) and plain(keep) and keep in found for keep in value[2:]):
                return False
            return index in value[2] and index not in value[3] and {table.amount_of(keep) for keep in value[2:]} == {most}
        gone = (index,) if value[0] == "sure" else rivals(table, rules, index)
        smaller = Table.of(table.columns, tuple(row for at, row in enumerate(table.rows) if at not in gone), scale=table.scale,
                           weights=tuple(one for at, one in enumerate(table.weights) if at not in gone))
        return is_keep_paper(smaller, rules, value[2]) and table.scale.is_less(smaller.amount_of(value[2][1]), most)

    def test_papers_of_other_chains_and_keeps(self):
        for table, rules in cases():
            ways = list(chains(rules))
            found = greatest_ones(table, rules)
            for index in range(len(table))[:3]:
                word = row_kind(table, rules, index)
                smaller = table.without(index) if word == "sure" else table.without_all(rivals(table, rules, index))
                for first, second in ((ways[0], ways[-1]), (ways[-1], ways[0])):
                    paper = keep_paper(table, rules, along=first)
                    other = keep_paper(smaller, rules, along=second)
                    for one in ("sure", "lost"):
                        there = table.without(index) if one == "sure" else table.without_all(rivals(table, rules, index))
                        wrong = keep_paper(there, rules, along=second)
                        self.assertIs(is_row_paper(table, rules, index, (one, paper, wrong)), one == word)
                    if word != "open":
                        self.assertIs(is_row_paper(table, rules, index, (word, paper, other)), True)
                for first, second in itertools.product(found[:4], repeat=2):
                    right = index in first and index not in second
                    self.assertIs(is_row_paper(table, rules, index, ("open", paper, first, second)), right)

    def test_papers_with_one_part_otherwise(self):
        found = [(PLAN, TALKS, index) for index in range(4)]
        found += [(table, rules, 0) for table, rules in cases()[::11] if len(table) > 0]
        found.append((Table(("x",), (1,), (2,), (3,)), ONE, 1))
        for table, rules, index in found:
            paper = row_paper(table, rules, index)
            for wrong in otherwise(paper):
                right = self.right_paper(table, rules, index, wrong)
                self.assertIs(is_row_paper(table, rules, index, wrong), right)

    def test_papers_by_hand(self):
        rows = Table(("x",), (1,), (2,), (3,))
        paper = row_paper(rows, ONE, 0)
        self.assertEqual(paper[0], "open")
        for wrong in (("open", paper[1], (1,), (0,)), ("open", paper[1], (0,), ()), ("open", paper[1], (0,), [1]),
                      ("open", paper[1], (0,)), ("open", paper[1], (0,), (1,), ()), ("open", paper[1], (False,), (1,)),
                      ("open", paper[1], (0, 1), (2,)), ("sure", paper[1], keep_paper(rows.without(0), ONE)), paper[1],
                      ("lost", paper[1], keep_paper(rows.only(0), ONE)), ("Open",) + paper[1:], list(paper), (), ("open",)):
            self.assertIs(is_row_paper(rows, ONE, 0, wrong), False)
        self.assertIs(is_row_paper(rows, ONE, 0, ("open", paper[1], (0,), (2,))), True)
        sure = row_paper(PLAN, TALKS, 2)
        self.assertIs(is_row_paper(PLAN, TALKS, 0, sure), False)
        self.assertIs(is_row_paper(PLAN, TALKS, 2, ("lost",) + sure[1:]), False)
        self.assertIs(is_row_paper(PLAN, TALKS, 2, ("sure", sure[2], sure[1])), False)
        self.accepts(lambda value: is_row_paper(PLAN, TALKS, 2, value), [sure], [sure])
        self.accepts(lambda value: is_row_paper(STOCK, PLACES, 1, value), [], [("sure", ("keep", (1, 2), ("all",)), ("keep", (), ("all",)))])


class WrongTest(Case):

    def test_wrong_tables_and_rules(self):
        self.checks_both(greatest_with, loss_with, row_kinds, lambda table, rules: greatest_with(table, rules, stay=3, go=3),
                         lambda table, rules: loss_with(table, rules, stay=3), lambda table, rules: row_prices(table, rules, -1),
                         lambda table, rules: row_kind(table, rules, -1), lambda table, rules: row_paper(table, rules, -1),
                         lambda table, rules: is_row_paper(table, rules, -1, None))

    def test_wrong_wishes(self):
        rows = PLAN.only(0, 1, 2)
        for call in (greatest_with, loss_with):
            more = [(0, 2), (2, 0), (3,), (0, 0), (1, 3), (0, 1, 2, 3)]
            for table, right in ((PLAN, SIDES + [(3,), (0, 2), (1, 3), (1, 2), (0, 1, 2, 3)]), (rows, SIDES + [(0, 2), (1, 2)])):
                self.refuses(InvalidOperation, lambda value: call(table, NO_RULES, stay=value), right, more=more)
                self.refuses(InvalidOperation, lambda value: call(table, NO_RULES, go=value), right, more=more)
            self.raises(InvalidOperation, lambda: call(PLAN, TALKS, stay=(0, 1), go=None))
            # Wishes count ahead of rules without a chain.
            for wrong in ([], (3,), (True,), None, (1, 0)):
                self.raises(InvalidOperation, lambda: call(STOCK, PLACES, stay=wrong))
                self.raises(InvalidOperation, lambda: call(STOCK, PLACES, stay=(0, 1), go=wrong))

    def test_wrong_indices(self):
        for call in (row_prices, row_kind, row_paper, lambda table, rules, index: is_row_paper(table, rules, index, None)):
            self.refuses(InvalidNumber, lambda value: call(PLAN, TALKS, value), [0, 1, 2, 3], "value", more=[4])
            self.raises(InvalidNumber, lambda: call(STOCK, PLACES, 3), value=3)
            self.raises(InvalidNumber, lambda: call(Table(("x",)), ONE, 0), value=0)

    def test_rules_without_a_chain(self):
        for call in (greatest_with, loss_with, row_kinds):
            self.chainless(PLACES, lambda: call(STOCK, PLACES))
            self.chainless(PLACES, lambda: call(STOCK.only(), PLACES))
        for call in (greatest_with, loss_with):
            self.chainless(PLACES, lambda: call(STOCK, PLACES, stay=(0, 1)))
        for call in (row_prices, row_kind, row_paper):
            self.chainless(PLACES, lambda: call(STOCK, PLACES, 0))
        self.assertIs(is_row_paper(STOCK, PLACES, 0, None), False)
        self.assertEqual(row_kinds(STOCK, NO_PLACES), ("sure",) * 3)

    def test_nothing_changes(self):
        table, rules = copy.deepcopy(PLAN), copy.deepcopy(TALKS)
        paper = row_paper(table, rules, 1)
        held = copy.deepcopy(paper)
        is_row_paper(table, rules, 1, paper), row_kinds(table, rules), greatest_with(table, rules, stay=(0,), go=(2,))
        self.raises(InvalidNumber, lambda: row_paper(table, rules, 4), value=4)
        self.assertEqual((table, rules, paper), (PLAN, TALKS, held))
        paper[1][2][4].clear()
        self.assertEqual(row_paper(table, rules, 1), held)

    def test_odds_are_compared_as_fractions(self):
        table = Table(("x",), (1,), (1,), (2,), scale=Scale.odds(), weights=((3, 2), (3, 2), (2, 1)))
        self.assertEqual(row_kinds(table, ONE), ("sure", "sure", "lost"))
        self.assertEqual(row_prices(table, ONE, 2), ((9, 8), (1, 1)))
        self.assertEqual(row_prices(table, ONE, 0), ((1, 1), (9, 8)))


if __name__ == "__main__":
    unittest.main()
