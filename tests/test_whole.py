"""[0.16] and [0.17] over the whole program: all ways lead to the same, in each scale and however it is written."""

import random
import unittest

from mostkept.base.scales import Scale
from mostkept.errors import InvalidEdit
from mostkept.hard.halves import doubled_bound, exact_keep, half_paper, is_half_paper, settled
from mostkept.hard.translations import translated
from mostkept.keeps.best import Ranking, best_first, is_ranking_paper, loss_levels
from mostkept.keeps.greatest import greatest_keep, is_greatest, is_keep_paper, keep_paper, least_loss
from mostkept.keeps.sure import is_row_paper, loss_with, row_kinds, row_paper, row_prices
from mostkept.live.advice import cheapest_selection, group_losses, rule_prices
from mostkept.live.live import Live
from mostkept.orders.chains import chain, chains
from mostkept.orders.witnesses import is_order_paper, order_paper, small_rules, witness
from mostkept.rules.covers import are_alike, lean_cover
from mostkept.rules.rules import Rules
from mostkept.tables.conflicts import full_keeps, keeps, loss
from mostkept.tables.tables import Table
from mostkept.text.formats import format_half_paper, format_keep_paper, format_order, format_rules, format_table
from mostkept.text.formats import parse_half_paper, parse_keep_paper, parse_order, parse_rules, parse_table
from mostkept.text.shell import Shell
from tests.helper import PLACES, TALKS, Case
from tests.search import SCALES, lost, some_rules, some_table
from tests.test_sure import cases

ABCD = ("a", "b", "c", "d")


def powers(table):
    """Return a table by odds in which each weight is a power of 2 with the number of the table by sums."""
    return Table.of(table.columns, table.rows, scale=Scale.odds(), weights=tuple((2 ** weight, 1) for weight in table.weights))


def classes(table):
    """Return a table by classes in which only the last number of a weight counts, that of the table by sums."""
    return Table.of(table.columns, table.rows, scale=Scale.classes(3), weights=tuple((0, 0, weight) for weight in table.weights))


def by_sums():
    return [(some_table(rules.columns, len(table), 2, SCALES[0], number), rules) for number, (table, rules) in enumerate(cases())]


def mixed():
    """Return tables in all scales with rules of all kinds, also without a chain."""
    rules = some_rules(ABCD, 4, 45, 51) + [PLACES, TALKS]
    return [(some_table(one.columns, 1 + number % 7, 2, SCALES[number % 3], number), one) for number, one in enumerate(rules)]


class ScalesTest(Case):

    def test_sums_are_told_by_classes_and_odds_with_their_amounts(self):
        for table, rules in by_sums():
            for other, amount in ((classes(table), lambda one: (0, 0, one)), (powers(table), lambda one: (2 ** one, 1))):
                self.assertEqual(greatest_keep(other, rules), greatest_keep(table, rules))
                self.assertEqual(least_loss(other, rules), amount(least_loss(table, rules)))
                self.assertEqual(row_kinds(other, rules), row_kinds(table, rules))
                for index in range(len(table)):
                    self.assertEqual(row_prices(other, rules, index), tuple(map(amount, row_prices(table, rules, index))))
                self.assertEqual(list(loss_levels(other, rules)), [(amount(one), many) for one, many in loss_levels(table, rules)])
                self.assertEqual(doubled_bound(other, rules), amount(doubled_bound(table, rules)))
                self.assertEqual(loss(other, rules, exact_keep(other, rules)), amount(least_loss(table, rules)))
                self.assertEqual(rule_prices(other, rules), {rule: None if one is None else amount(one)
                                                             for rule, one in rule_prices(table, rules).items()})
                self.assertEqual(cheapest_selection(other, rules)[1], amount(cheapest_selection(table, rules)[1]))
                self.assertEqual(Live(other, rules).bounds()[1], amount(Live(table, rules).bounds()[1]))

    def test_greatest_keeps_by_sums_need_not_be_greatest_by_odds(self):
        rules = Rules(("x",), ((), ("x",)))
        rows, odds = ((1,), (1,), (2,)), ((3, 2), (3, 2), (5, 1))
        sums = Table(("x",), *rows, weights=(3, 3, 5))
        self.assertEqual([greatest_keep(sums, rules), greatest_keep(Table(("x",), *rows, scale=Scale.odds(), weights=odds), rules)],
                         [(0, 1), (2,)])


class WaysTest(Case):

    def test_the_least_loss_by_every_way(self):
        for table, rules in cases():
            scale, least = table.scale, least_loss(table, rules)
            found = [lost(table, keep) for keep in full_keeps(table, rules)]
            self.assertEqual(scale.least(*found), least)
            self.assertEqual(scale.least(*[loss(table, rules, keep) for keep in keeps(table, rules)]), least)
            for steps in list(chains(rules))[:3]:
                self.assertEqual(lost(table, keep_paper(table, rules, along=steps)[1]), least)
            self.assertEqual(loss_with(table, rules), least)
            self.assertEqual(next(loss_levels(table, rules))[0], least)
            self.assertEqual(lost(table, next(best_first(table, rules))), least)
            self.assertEqual(lost(table, exact_keep(table, rules)), least)
            self.assertEqual(group_losses(table, rules, ()), {(): least} if len(table) > 0 else {})
            self.assertEqual(cheapest_selection(table, rules), (rules, least))
            live = Live(table, rules)
            self.assertEqual([live.least_loss(), list(live.losses()), live.effect()], [least, [least], (least, least)])
            for index in range(len(table)):
                both = [loss_with(table, rules, stay=(index,)), loss_with(table, rules, go=(index,))]
                self.assertEqual(scale.least(*both), least)
            zeros, twos = settled(table, rules, half_paper(table, rules))
            self.assertEqual(loss_with(table, rules, stay=zeros, go=twos), least)

    def test_the_shell_tells_the_same(self):
        for table, rules in cases()[::3]:
            scale = {"sums": "sums", "classes": "classes 2", "odds": "odds"}[table.scale.word]
            shell = Shell()
            shell.run(f"new one {scale} " + " ".join(table.columns))
            lines = format_table(table).split("\n")[2:]
            shell.run_all(tuple(f"row one {line}" for line in lines))
            shell.run_all(tuple(f"rule one {line}" for line in format_rules(rules).split("\n")[1:]))
            self.assertEqual((shell["one"], shell.branch_of("one").rules), (table, rules))
            self.assertEqual(shell.branch_of("one"), Live(table, rules))
            self.assertEqual(shell.run("loss one"), shell.run("levels one 1").partition(" * ")[0])

    def test_small_problems_are_solved_by_greatest_keeps_of_translated_tables(self):
        for table, rules in mixed():
            made = witness(rules)
            if made is not None:
                small = some_table(("a", "b", "c"), 7, 2, table.scale, len(table))
                problem = small_rules(made[1])
                keep = exact_keep(translated(rules, made, small), rules)
                self.assertEqual(lost(small, keep), lost(small, exact_keep(small, problem)))
                self.assertEqual(doubled_bound(translated(rules, made, small), rules), doubled_bound(small, problem))


class WritingTest(Case):

    def test_papers_that_are_written_and_read_again(self):
        for table, rules in mixed():
            self.assertEqual((parse_table(format_table(table)), parse_rules(format_rules(rules))), (table, rules))
            self.assertIs(is_order_paper(rules, parse_order(format_order(order_paper(rules)))), True)
            scale = table.scale
            half = parse_half_paper(scale, format_half_paper(scale, half_paper(table, rules)))
            self.assertIs(is_half_paper(table, rules, half), True)
            if chain(rules) is not None:
                paper = parse_keep_paper(scale, format_keep_paper(scale, keep_paper(table, rules)))
                self.assertIs(is_keep_paper(table, rules, paper), True)
                word, first, *others = row_paper(table, rules, 0)
                read = parse_keep_paper(scale, format_keep_paper(scale, first))
                self.assertIs(is_row_paper(table, rules, 0, (word, read, *others)), True)

    def test_alike_rules(self):
        for table, rules in mixed():
            other = lean_cover(rules).with_rule(("a",), ("a",)) if "a" in rules.columns else lean_cover(rules)
            self.assertIs(are_alike(rules, other), True)
            self.assertIs(is_order_paper(other, order_paper(rules)), True)
            self.assertEqual(half_paper(table, other), half_paper(table, rules))
            self.assertEqual(exact_keep(table, other), exact_keep(table, rules))
            if chain(rules) is not None:
                self.assertEqual(list(loss_levels(table, other)), list(loss_levels(table, rules)))
                self.assertIs(is_keep_paper(table, other, keep_paper(table, rules)), True)
                self.assertIs(is_row_paper(table, other, 0, row_paper(table, rules, 0)), True)
                ranking = Ranking(table, rules)
                ranking.take(2)
                self.assertIs(is_ranking_paper(table, other, ranking.paper_so_far()), True)

    def test_rows_in_another_order(self):
        chance = random.Random(52)
        for table, rules in mixed():
            order = tuple(chance.sample(range(len(table)), len(table)))
            other = table.reordered(order)
            self.assertEqual(doubled_bound(other, rules), doubled_bound(table, rules))
            self.assertEqual(lost(other, exact_keep(other, rules)), lost(table, exact_keep(table, rules)))
            self.assertEqual(list(rule_prices(other, rules).items()), list(rule_prices(table, rules).items()))
            if chain(rules) is not None:
                kinds = row_kinds(table, rules)
                self.assertEqual(row_kinds(other, rules), tuple(kinds[at] for at in order))
                self.assertEqual(list(loss_levels(other, rules)), list(loss_levels(table, rules)))
                told = [tuple(sorted(order[at] for at in keep)) for keep in best_first(other, rules)]
                self.assertEqual(sorted(told), sorted(best_first(table, rules)))
                self.assertIs(is_greatest(table, rules, told[0]), True)

    def test_other_names_of_columns(self):
        for table, rules in mixed():
            names = dict(zip(table.columns, ("z", "y", "x", "w")))
            other, others = table.renamed_by(names), rules.renamed_by(names)
            self.assertEqual(chain(others) is None, chain(rules) is None)
            self.assertEqual(half_paper(other, others)[1:], half_paper(table, rules)[1:])
            self.assertEqual(exact_keep(other, others), exact_keep(table, rules))
            if chain(rules) is not None:
                self.assertEqual(row_kinds(other, others), row_kinds(table, rules))
                self.assertEqual(list(loss_levels(other, others)), list(loss_levels(table, rules)))


class LiveTest(Case):

    def test_behind_any_edits(self):
        chance = random.Random(53)
        for number in range(6):
            live = Live(some_table(ABCD, 4, 2, SCALES[number % 3], number), Rules(ABCD))
            for _ in range(12):
                edit = chance.choice([("row", tuple(chance.randint(1, 2) for _ in ABCD), None), ("drop", chance.randint(0, 3)), ("rule", ("a",), ("b",)),
                                      ("rule", ("b",), ("a", "c")), ("rule", (), ("d",)), ("unrule", ("a",), ("b",)), ("unrule", (), ("d",))])
                if chance.random() < 0.3 and len(live) > 0:
                    live.undo(chance.randint(1, len(live)))
                    continue
                try:
                    live.apply(edit)
                except InvalidEdit:
                    continue
                table, rules = live.table, live.rules
                if chain(rules) is not None:
                    self.assertIs(is_keep_paper(table, rules, live.keep_paper()), True)
                    ranking = Ranking(table, rules)
                    ranking.take(3)
                    self.assertIs(is_ranking_paper(table, rules, ranking.paper_so_far()), True)
                    self.assertEqual(live.least_loss(), lost(table, exact_keep(table, rules)))
                self.assertIs(is_order_paper(rules, live.order_paper()), True)


if __name__ == "__main__":
    unittest.main()
