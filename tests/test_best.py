"""[13.1] to [13.3] and the module mostkept.keeps.best."""

import copy
import itertools
import random
import unittest

from mostkept.base.scales import Scale
from mostkept.errors import InvalidNumber, InvalidOperation
from mostkept.keeps.best import Ranking, best_first, is_ranking_paper, loss_levels
from mostkept.keeps.greatest import is_keep_paper, keep_paper, least_loss
from mostkept.orders.chains import chain, chains
from mostkept.rules.rules import Rules
from mostkept.tables.tables import Table
from tests.helper import ALL, FORTY, KNOWN, NO_COLUMNS, NO_RULES, PLACES, PLAN, STOCK, TALKS, Case, otherwise, plain, values
from tests.search import SCALES, all_keeps, clash, lost, some_table
from tests.test_sure import DAILY, ONE, cases, following, some_wishes

EXAMPLES = """
>>> [list(loss_levels(PLAN, TALKS)), list(loss_levels(PLAN, TALKS, stay=(1,)))]
[[(4, 1), (5, 2), (6, 1), (7, 3), (9, 1)], [(5, 1), (7, 1)]]
>>> best = Ranking(PLAN, TALKS)
>>> [best.take(1), best.loss, sorted(best.within(5)), str(best), is_ranking_paper(PLAN, TALKS, best.paper_so_far())]
[((0, 2),), 4, [(1, 3), (2, 3)], 'ranking: 3 keeps told', True]
"""
ROWS = Table(("x",), (1,), (2,), (3,))


def wishes():
    """Return tables and rules with wishes that some keep follows."""
    chance = random.Random(2)
    found = [(table, rules, (), ()) for table, rules in cases()]
    for table, rules in cases():
        found += [(table, rules, stay, go) for stay, go in some_wishes(table, chance)[:3] if following(table, rules, stay, go)]
    return found


def greater_of(table, rules, chance):
    """Return a keep that cannot be added to and has a least loss, any of these."""
    found = all_keeps(table, rules)
    least = table.scale.least(*[lost(table, keep) for keep in found])
    return chance.choice([keep for keep in found if lost(table, keep) == least])


def below(table):
    """Return an amount that is less than zero."""
    return table.scale.negative(table.scale.one)


def is_wish(value):
    return isinstance(value, tuple) and len(value) == 2 and all(isinstance(side, tuple) and plain(side) for side in value) and all(
        isinstance(at, int) for side in value for at in side)


def rows_left(table, rules, wish):
    return tuple(at for at in range(len(table)) if at not in wish[1]
                 and not any(clash(rules, table[at], table[other]) for other in wish[0]))


def branches_by(wish, keep):
    """Return the branches by the words of [13.2]."""
    free = [at for at in keep if at not in wish[0]]
    return [(tuple(sorted(wish[0] + tuple(free[:at]))), tuple(sorted(wish[1] + (free[at],)))) for at in range(len(free))]


def any_paper(table, rules, wish, many, chance):
    """Return a ranking paper for so many keeps, or all, that takes any of equal keeps and any chains."""
    keeps, branches, waiting = [], {}, {wish: None}
    ways = list(chains(rules))
    while waiting and len(keeps) < many:
        best = {}
        for one in waiting:
            rows = rows_left(table, rules, one)
            kept = greater_of(table.only_all(rows), rules, chance)
            best[one] = tuple(rows[at] for at in kept)
        least = table.scale.least(*[lost(table, keep) for keep in best.values()])
        one = chance.choice([one for one in waiting if lost(table, best[one]) == least])
        keeps.append(best[one])
        branches[one] = best[one]
        del waiting[one]
        waiting.update({other: None for other in branches_by(one, best[one])})
    for one in waiting:
        branches[one] = keep_paper(table.only_all(rows_left(table, rules, one)), rules, along=chance.choice(ways))
    return ("ranked", tuple(keeps), branches)


class ListingTest(Case):

    def test_examples(self):
        self.examples(EXAMPLES, {**globals(), **KNOWN})

    def is_ranking_of(self, table, told, found):
        self.assertEqual(sorted(told), sorted(found))
        losses = [lost(table, keep) for keep in told]
        self.assertFalse(any(table.scale.is_less(losses[at + 1], losses[at]) for at in range(len(losses) - 1)))

    def test_rankings_by_search(self):
        for table, rules, stay, go in wishes():
            found = following(table, rules, stay, go)
            told = list(best_first(table, rules, stay=stay, go=go))
            self.is_ranking_of(table, told, found)
            levels = list(loss_levels(table, rules, go=go, stay=stay))
            losses = [lost(table, keep) for keep in told]
            self.assertEqual(levels, [(loss, len(list(some))) for loss, some in itertools.groupby(losses)])
            self.assertEqual(Ranking(table, rules, stay=stay, go=go).take(1000), tuple(told))
            self.assertEqual(list(best_first(table, rules, stay=stay, go=go)), told)

    def test_no_rows_and_no_conflicts(self):
        for scale in SCALES:
            empty = Table(("x",), scale=scale)
            self.assertEqual([list(best_first(empty, ONE)), list(loss_levels(empty, ONE))], [[()], [(scale.zero, 1)]])
            free = some_table(("x",), 5, 3, scale, 1)
            self.is_ranking_of(free, list(best_first(free, Rules(("x",)))), all_keeps(free, Rules(("x",))))
            self.assertEqual(len(list(best_first(free, Rules(("x",)), stay=(1, 3)))), 8)
            self.assertEqual(list(best_first(free, Rules(("x",)), stay=(1, 3), go=(0, 2, 4))), [(1, 3)])
            self.assertEqual(list(best_first(free, Rules(("x",)), go=(0, 1, 2, 3, 4))), [()])
        alike = Table(("x",), *[(1,)] * 6)
        self.assertEqual(list(loss_levels(alike, ONE)), [(0, 1), (1, 6), (2, 15), (3, 20), (4, 15), (5, 6), (6, 1)])

    def test_great_weights(self):
        table = Table(("x",), (1,), (1,), (2,), weights=(FORTY, 1, FORTY))
        told = list(best_first(table, ONE))
        self.assertEqual([told[0], sorted(told[1:3]), told[3:]], [(0, 1), [(0,), (2,)], [(1,), ()]])
        self.assertEqual(list(loss_levels(table, ONE)), [(FORTY, 1), (FORTY + 1, 2), (2 * FORTY, 1), (2 * FORTY + 1, 1)])

    def test_odds_are_compared_as_fractions(self):
        table = Table(("x",), (1,), (1,), (2,), scale=Scale.odds(), weights=((3, 2), (3, 2), (2, 1)))
        self.assertEqual(list(best_first(table, ONE))[:2], [(0, 1), (2,)])
        self.assertEqual(list(loss_levels(table, ONE))[:2], [((2, 1), 1), ((9, 4), 1)])

    def test_two_hundred_rows(self):
        for scale in SCALES:
            for rules, most in ((TALKS, 40), (DAILY, 8), (NO_RULES, 3)):
                table = some_table(rules.columns, 200, most, scale, 5)
                ranking = Ranking(table, rules)
                told = ranking.take(30)
                losses = [lost(table, keep) for keep in told]
                self.assertEqual(len(set(told)), 30)
                self.assertEqual(losses[0], least_loss(table, rules))
                self.assertFalse(any(scale.is_less(losses[at + 1], losses[at]) for at in range(29)))
        ranking = Ranking(table.only(*range(60)), NO_RULES)
        ranking.take(3)
        self.assertIs(is_ranking_paper(ranking.table, NO_RULES, ranking.paper_so_far()), True)


class RankingTest(Case):

    def test_each_moment(self):
        for table, rules, stay, go in wishes()[::2]:
            found = following(table, rules, stay, go)
            ranking = Ranking(table, rules, stay=stay, go=go)
            self.assertEqual((ranking.table, ranking.rules, ranking.wish), (table, rules, (stay, go)))
            told = []
            while True:
                self.assertEqual([ranking.told, len(ranking), bool(ranking)], [tuple(told), len(told), len(told) < len(found)])
                self.assertEqual(ranking.loss, lost(table, told[-1]) if told else None)
                self.assertEqual(str(ranking), f"ranking: {len(told)} keeps told")
                if len(told) % 3 == 0:
                    self.assertIs(is_ranking_paper(table, rules, ranking.paper_so_far(), stay=stay, go=go), True)
                keep = ranking.next_keep()
                if keep is None:
                    break
                told.append(keep)
            self.assertEqual(sorted(told), sorted(found))
            self.assertEqual([ranking.take(3), ranking.next_keep(), list(ranking.within(table.total))], [(), None, []])
            self.assertEqual([ranking.told, len(ranking), bool(ranking)], [tuple(told), len(told), False])

    def test_papers_so_far(self):
        for table, rules, stay, go in wishes()[::3]:
            ranking = Ranking(table, rules, stay=stay, go=go)
            for many in (0, 1, 2, 5, 1000):
                ranking.take(many)
                word, told, branches = ranking.paper_so_far()
                self.assertEqual((word, told), ("ranked", ranking.told))
                self.assertIs(is_ranking_paper(table, rules, (word, told, branches), stay=stay, go=go), True)
                self.assertEqual(list(branches), sorted(branches))
                for wish, given in branches.items():
                    self.assertIs(given in told or is_keep_paper(table.only_all(rows_left(table, rules, wish)), rules, given), True)
            self.assertIs(any(isinstance(given, tuple) and "keep" in given for given in branches.values()), False)

    def test_within(self):
        for table, rules, stay, go in wishes()[::3]:
            levels = list(loss_levels(table, rules, stay=stay, go=go))
            ranking = Ranking(table, rules, stay=stay, go=go)
            self.assertEqual(list(ranking.within(below(table))), [])
            for loss, many in levels:
                self.assertEqual(list(ranking.within(table.scale.minus(loss, table.scale.one)))[:1], [])
                told = list(ranking.within(loss))
                self.assertEqual([lost(table, keep) for keep in told], [loss] * many)
                self.assertEqual(ranking.loss, loss)
            self.assertFalse(ranking)

    def test_within_one_by_one(self):
        ranking = Ranking(PLAN, TALKS)
        found = ranking.within(5)
        self.assertEqual(len(ranking), 0)
        self.assertEqual([next(found), len(ranking), ranking.loss], [(0, 2), 1, 4])
        second = ranking.next_keep()
        self.assertEqual(len({second, next(found)} | {(1, 3), (2, 3)}), 2)
        self.assertEqual([len(ranking), list(found), len(ranking)], [3, [], 3])
        self.assertEqual(list(ranking.within(6)), [(0,)])

    def test_looking_ahead_changes_nothing(self):
        for table, rules in cases()[::4]:
            plain_one, other = Ranking(table, rules), Ranking(table, rules)
            found = []
            while plain_one:
                list(other.within(below(table)))
                other.paper_so_far(), bool(other), str(other), other.twin().take(2)
                self.assertEqual(other, plain_one)
                found.append(other.next_keep())
                self.assertEqual(found[-1], plain_one.next_keep())
            self.assertEqual(tuple(found), tuple(best_first(table, rules)))

    def test_twins(self):
        ranking = Ranking(PLAN, TALKS, go=(3,))
        ranking.take(2)
        twin = ranking.twin()
        self.assertEqual([twin == ranking, twin.told, twin.loss, twin.wish], [True, ranking.told, ranking.loss, ((), (3,))])
        left = twin.take(1000)
        self.assertEqual([twin == ranking, len(ranking), bool(ranking), bool(twin)], [False, 2, True, False])
        self.assertEqual(ranking.take(1000), left)
        self.assertEqual(twin, ranking)
        self.assertIs(is_ranking_paper(PLAN, TALKS, twin.paper_so_far(), go=(3,)), True)

    def test_equal_rankings(self):
        ranking = Ranking(PLAN, TALKS)
        self.assertIs(ranking == Ranking(PLAN, Rules(TALKS.columns, *reversed(TALKS.rules)), stay=(), go=()), True)
        for other in (Ranking(PLAN, TALKS, stay=(0,)), Ranking(PLAN, TALKS, go=(1,)), Ranking(PLAN, NO_RULES),
                      Ranking(PLAN.weighted(0, 4), TALKS), *values()[:90], ("ranked", (), {}), None):
            self.assertIs(ranking == other, False)
            self.assertIs(ranking != other, True)
        other = Ranking(PLAN, TALKS)
        ranking.next_keep()
        self.assertIs(ranking == other, False)
        other.next_keep()
        self.assertIs(ranking == other, True)

    def test_what_is_returned_gives_no_access(self):
        ranking = Ranking(PLAN, TALKS)
        ranking.take(2)
        paper = ranking.paper_so_far()
        held = copy.deepcopy(paper)
        for given in paper[2].values():
            if given[:1] == ("keep",) and given[2] != ALL:
                given[2][-1].clear()
        paper[2].clear()
        self.assertEqual(ranking.paper_so_far(), held)

    def test_numbers_to_take(self):
        ranking = Ranking(PLAN, TALKS)
        self.refuses(InvalidNumber, lambda value: ranking.take(value), [0, 1, 2, 3, 4, 5, 8, 9, 200], "value", more=[1001])
        self.assertEqual(ranking.take(1000), ())
        ranking = Ranking(PLAN, TALKS)
        self.assertEqual([ranking.take(0), ranking.take(3), ranking.told], [(), ranking.told[:3], ranking.told[:3]])
        self.raises(InvalidNumber, lambda: ranking.take(-1), value=-1)
        self.assertEqual(len(ranking), 3)

    def test_amounts_to_be_within(self):
        amounts = [value for value in values() if isinstance(value, int) and not isinstance(value, bool)]
        self.refuses(InvalidOperation, lambda value: list(Ranking(PLAN, TALKS).within(value)), amounts, more=[(1,), (3, 2)])
        ranking = Ranking(PLAN, TALKS)
        found = ranking.within("5")
        self.raises(InvalidOperation, lambda: next(found))
        self.assertEqual(len(ranking), 0)
        ranking.take(1000)
        self.raises(InvalidOperation, lambda: next(ranking.within("5")))
        odds = Ranking(Table(("x",), scale=Scale.odds()), ONE)
        self.raises(InvalidOperation, lambda: next(odds.within(5)))
        self.assertEqual(list(odds.within((1, 1))), [()])


class PapersTest(Case):

    def right_paper(self, table, rules, value, wish):
        """Return whether the value is a ranking paper by the words of [13.3]."""
        if not isinstance(value, tuple) or len(value) != 3 or value[0] != "ranked" or not isinstance(value[2], dict):
            return False
        keeps, branches = value[1:]
        found = following(table, rules, *wish)
        if not isinstance(keeps, tuple) or not all(isinstance(keep, tuple) and plain(keep) and keep in found for keep in keeps):
            return False
        losses = [lost(table, keep) for keep in keeps]
        if len(set(keeps)) < len(keeps) or any(table.scale.is_less(losses[at + 1], losses[at]) for at in range(len(losses) - 1)):
            return False
        if not all(is_wish(key) for key in branches) or wish not in branches:
            return False
        wanted, used = {wish}, []
        for key, given in branches.items():
            if isinstance(given, tuple) and plain(given) and given in keeps:
                if given not in following(table, rules, *key):
                    return False
                if any(set(given) < set(keep) and not set(keep) & set(key[1]) for keep in all_keeps(table, rules)):
                    return False
                used.append(given)
                wanted.update(branches_by(key, given))
        if wanted != set(branches) or sorted(used) != sorted(keeps):
            return False
        for key, given in branches.items():
            if not (isinstance(given, tuple) and plain(given) and given in keeps):
                if not is_keep_paper(table.only_all(rows_left(table, rules, key)), rules, given):
                    return False
                least = table.scale.least(*[lost(table, keep) for keep in following(table, rules, *key)])
                if keeps and table.scale.is_less(least, losses[-1]):
                    return False
        return True

    def test_papers_by_others(self):
        chance = random.Random(6)
        for table, rules, stay, go in wishes()[::2]:
            for many in (0, 1, 3, 100):
                paper = any_paper(table, rules, (stay, go), many, chance)
                self.assertIs(is_ranking_paper(table, rules, paper, stay=stay, go=go), True)
                if many == 3:
                    self.assertIs(self.right_paper(table, rules, paper, (stay, go)), True)
                    wrong = ("ranked", paper[1][::-1], paper[2])
                    right = self.right_paper(table, rules, wrong, (stay, go))
                    self.assertIs(is_ranking_paper(table, rules, wrong, stay=stay, go=go), right)

    def test_papers_of_keeps_that_are_not_the_first_ones(self):
        for many in (0, 1, 2):
            ranking = Ranking(PLAN, TALKS)
            ranking.take(many)
            word, told, branches = ranking.paper_so_far()
            for keep in ((), (0,), (3,), (1, 3), (0, 2), (0, 1)):
                wrong = (word, told + (keep,), branches)
                self.assertIs(is_ranking_paper(PLAN, TALKS, wrong), False)
        # (2, 3) is branched ahead of (0, 2), which is better.
        wish = ((), ())
        branches = {wish: (2, 3), ((), (2,)): self.paper_of((0, 1, 3)), ((2,), (3,)): self.paper_of((0, 2))}
        self.assertIs(is_ranking_paper(PLAN, TALKS, ("ranked", ((2, 3),), branches)), False)
        branches = {wish: (0, 2), ((), (0,)): self.paper_of((1, 2, 3)), ((0,), (2,)): self.paper_of((0,))}
        self.assertIs(is_ranking_paper(PLAN, TALKS, ("ranked", ((0, 2),), branches)), True)
        for wrong in ((0,), (2,), ()):
            self.assertIs(is_ranking_paper(PLAN, TALKS, ("ranked", (wrong,), {**branches, wish: wrong})), False)

    def test_keeps_in_wrong_branches(self):
        wish, none, alone = ((), ()), ((), (0,)), ((0,), (2,))
        start = {wish: (0, 2), none: self.paper_of((1, 2, 3))}
        # (0,) loses more than the best of the branch that is left.
        late = {**start, alone: (0,), ((), (0, 2)): self.paper_of((1, 3))}
        self.assertIs(is_ranking_paper(PLAN, TALKS, ("ranked", ((0, 2), (0,)), {**start, alone: (0,)})), False)
        self.assertIs(is_ranking_paper(PLAN, TALKS, ("ranked", ((0, 2), (0,)), late)), False)
        # (1, 3) does not follow the wish that has the row 0, although no row can be added to it.
        wrong = {**start, alone: (1, 3), ((0,), (1, 2)): self.paper_of((0,)), ((0, 1), (2, 3)): self.paper_of(())}
        self.assertIs(is_ranking_paper(PLAN, TALKS, ("ranked", ((0, 2), (1, 3)), wrong)), False)
        # The same keep twice over, once in another order of its rows, and a keep that is none.
        for keep in ((2, 0), (0, 0, 2), (0, 1), (0, 2, 3), (True, 2)):
            other = {wish: keep, none: start[none], alone: self.paper_of((0,))}
            self.assertIs(is_ranking_paper(PLAN, TALKS, ("ranked", (keep,), other)), False)
        self.assertIs(is_ranking_paper(PLAN, TALKS, ("ranked", ((0, 2),), {**start, alone: self.paper_of((0,))})), True)

    def paper_of(self, rows):
        return keep_paper(PLAN.only(*rows), TALKS)

    def test_papers_with_one_thing_otherwise(self):
        chance = random.Random(7)
        found = [(PLAN, TALKS, (), (), 2), (PLAN, TALKS, (1,), (), 1), (PLAN, TALKS, (), (2,), 0), (ROWS, ONE, (), (), 2)]
        found += [(table, rules, stay, go, 2) for table, rules, stay, go in wishes()[::17] if len(table) < 5]
        for table, rules, stay, go, many in found:
            paper = any_paper(table, rules, (stay, go), many, chance)
            for wrong in otherwise(paper):
                right = self.right_paper(table, rules, wrong, (stay, go))
                self.assertIs(is_ranking_paper(table, rules, wrong, stay=stay, go=go), right)

    def test_papers_of_another_wish(self):
        ranking = Ranking(PLAN, TALKS)
        ranking.take(2)
        paper = ranking.paper_so_far()
        self.assertIs(is_ranking_paper(PLAN, TALKS, paper, stay=(), go=()), True)
        self.assertIs(is_ranking_paper(PLAN, TALKS, paper, stay=(0,)), False)
        self.assertIs(is_ranking_paper(PLAN, TALKS, paper, go=(1,)), False)
        self.assertIs(is_ranking_paper(PLAN, NO_RULES, paper), False)
        self.assertIs(is_ranking_paper(PLAN.weighted(1, 9), TALKS, paper), False)
        # A keep that has a row more than the wish asks for, but to which a row can be added, does not fill the wish.
        table = Table(("x",), (1,), (1,))
        wish = ((), ())
        full = {wish: (0, 1), ((), (0,)): (1,), ((0,), (1,)): (0,), ((), (0, 1)): ()}
        self.assertIs(is_ranking_paper(table, ONE, ("ranked", ((0, 1), (1,), (0,), ()), full)), True)
        self.assertIs(is_ranking_paper(table, ONE, ("ranked", ((0, 1), (0,), (1,), ()), full)), True)
        self.assertIs(is_ranking_paper(table, ONE, ("ranked", ((0, 1), (0,), (), (1,)), full)), False)
        self.assertIs(is_ranking_paper(table, ONE, ("ranked", ((0, 1), (1,), (0,), ()), {**full, ((1,), (0,)): (1,)})), False)
        self.assertIs(is_ranking_paper(table, ONE, ("ranked", ((0, 1), (1,), (0,)), full)), False)

    def test_papers_without_a_chain(self):
        # A paper in which all keeps are told needs no keep papers of tables, and so no chain.
        wish = ((), ())
        table = STOCK.only(0, 1)
        full = {wish: (0,), ((), (0,)): (1,), ((), (0, 1)): ()}
        self.assertIs(is_ranking_paper(table, PLACES, ("ranked", ((0,), (1,), ()), full)), True)
        self.assertIs(is_ranking_paper(table, PLACES, ("ranked", ((0,),), {wish: (0,), ((), (0,)): ("keep", (0,), ALL)})), False)
        self.assertIs(is_ranking_paper(STOCK, PLACES, None), False)

    def test_values_that_are_papers(self):
        first = Ranking(PLAN, TALKS).paper_so_far()
        self.accepts(lambda value: is_ranking_paper(PLAN, TALKS, value), [first],
                     [first, list(first), first[:2], ("Ranked",) + first[1:], first + ((),), ("ranked", [], first[2])])
        empty = Table(("x",))
        nothing = {((), ()): ()}
        self.accepts(lambda value: is_ranking_paper(empty, ONE, value), [("ranked", ((),), nothing)],
                     [("ranked", ((),), nothing), ("ranked", (), nothing), ("ranked", ((),), {}), ("ranked", ((), ()), nothing)])


class WrongTest(Case):

    def calls(self):
        return [lambda table, rules, **wish: next(best_first(table, rules, **wish)),
                lambda table, rules, **wish: next(loss_levels(table, rules, **wish)), Ranking,
                lambda table, rules, **wish: is_ranking_paper(table, rules, None, **wish)]

    def test_wrong_tables_and_rules(self):
        self.checks_both(*self.calls(), *[lambda table, rules, call=call: call(table, rules, stay=3) for call in self.calls()])

    def test_wrong_wishes(self):
        right = [(), (0,), (1,), (2,), (0, 1)]
        for call in self.calls():
            self.refuses(InvalidOperation, lambda value: call(PLAN, NO_RULES, stay=value), right + [(0, 1, 2, 3), (1, 2)])
            self.refuses(InvalidOperation, lambda value: call(PLAN, NO_RULES, go=value), right + [(0, 1, 2, 3), (1, 2)])
            for stay, go in (((0, 1), ()), ((2,), (2,)), ((0, 3), (1,)), ((1, 0), ()), ((4,), ())):
                self.raises(InvalidOperation, lambda: call(PLAN, TALKS, stay=stay, go=go))
            # Wishes that no keep follows count ahead of rules without a chain.
            for wrong in ([], (3,), (True,), None, (1, 0), (0, 1)):
                self.raises(InvalidOperation, lambda: call(STOCK, PLACES, stay=wrong))
            self.raises(InvalidOperation, lambda: call(STOCK, PLACES, go=3))
            self.raises(InvalidOperation, lambda: call(STOCK, PLACES, stay=(0,), go=(0, 1)))

    def test_rules_without_a_chain(self):
        for call in self.calls()[:3]:
            self.chainless(PLACES, lambda: call(STOCK, PLACES))
            self.chainless(PLACES, lambda: call(STOCK, PLACES, stay=(1, 2), go=(0,)))
        self.raises(InvalidOperation, lambda: Ranking(PLAN, NO_COLUMNS))

    def test_generators_raise_when_the_first_result_is_asked_for(self):
        for found, error in ((best_first(PLAN, TALKS, stay=3), InvalidOperation), (loss_levels(PLAN, TALKS, go=3), InvalidOperation),
                             (best_first(PLAN, TALKS, stay=(0, 1)), InvalidOperation)):
            self.raises(error, lambda: next(found))
        self.chainless(PLACES, lambda: next(best_first(STOCK, PLACES)))

    def test_nothing_changes(self):
        table, rules = copy.deepcopy(PLAN), copy.deepcopy(TALKS)
        ranking = Ranking(table, rules)
        ranking.take(4)
        paper = ranking.paper_so_far()
        held = copy.deepcopy(paper)
        self.assertIs(is_ranking_paper(table, rules, paper), True)
        list(loss_levels(table, rules)), list(best_first(table, rules, go=(1,)))
        self.assertEqual((table, rules, paper), (PLAN, TALKS, held))
        self.assertIs(chain(rules) is None, False)


if __name__ == "__main__":
    unittest.main()
