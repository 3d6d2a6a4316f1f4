"""[17.1], [17.2] and the module mostkept.live.live, with [0.16] for live tables."""

import copy
import random
import unittest

from mostkept.errors import Chainless, InvalidEdit, InvalidNumber, InvalidOperation, InvalidRules, InvalidTable, NothingToUndo, TooMany
from mostkept.hard.halves import doubled_bound
from mostkept.keeps.greatest import greatest_keep, is_keep_paper, keep_paper, least_loss
from mostkept.live.live import Live
from mostkept.orders.chains import chain
from mostkept.orders.witnesses import is_order_paper, is_witness, order_paper
from mostkept.rules.rules import Rules
from mostkept.tables.tables import Table
from tests.helper import FORTY, KNOWN, NO_PLACES, NO_RULES, PLACES, PLAN, STOCK, TALKS, Case, exactly, values
from tests.search import SCALES, all_keeps, all_rules, lost, some_table, some_weight

EXAMPLES = """
>>> live = Live(PLAN, TALKS)
>>> [live.apply(("weight", 1, 9)), live.greatest_keep(), live.apply(("unrule", ("talk",), ("hour", "room"))), live.undo(2), live.effect(("drop", 0)), live.worth(0)]
[(4, 5), (1, 3), (5, 3), (3, 4), (4, 2), 2]
"""
ABC = ("a", "b", "c")
RULE = ("rule", ("item",), ("team",))
GONE = ("unrule", ("team",), ("place",))
ROOM = ("rule", ("hour",), ("room",))


def loss_of(table, rules):
    return None if chain(rules) is None else least_loss(table, rules)


def some_edit(chance, table, rules):
    """Return an edit that is possible."""
    while True:
        word = chance.choice(("row", "row", "drop", "weight", "rule", "rule", "unrule"))
        if word == "row" and len(table) < 8:
            weight = None if chance.random() < 0.3 else some_weight(chance, table.scale)
            return (word, tuple(chance.randint(1, 3) for _ in table.columns), weight)
        if word == "drop" and len(table) > 0:
            return (word, chance.randrange(len(table)))
        if word == "weight" and len(table) > 0:
            return (word, chance.randrange(len(table)), some_weight(chance, table.scale))
        rule = chance.choice(all_rules(rules.columns))
        if word == "rule" and rule not in rules and len(rules) < 5:
            return (word,) + rule
        if word == "unrule" and len(rules) > 0:
            return (word,) + chance.choice(rules.rules)


def edited(table, rules, edit):
    """Return what is behind an edit that is possible, by the words of [17.1]."""
    rows, weights, scale = table.rows, table.weights, table.scale
    if edit[0] == "row":
        rows, weights = rows + (edit[1],), weights + (scale.one if edit[2] is None else edit[2],)
    elif edit[0] == "drop":
        rows, weights = rows[:edit[1]] + rows[edit[1] + 1:], weights[:edit[1]] + weights[edit[1] + 1:]
    elif edit[0] == "weight":
        weights = weights[:edit[1]] + (edit[2],) + weights[edit[1] + 1:]
    elif edit[0] == "rule":
        rules = Rules(rules.columns, *rules.rules, edit[1:])
    else:
        rules = Rules(rules.columns, *[rule for rule in rules.rules if rule != edit[1:]])
    return Table.of(table.columns, rows, scale=scale, weights=weights), rules


def state(live):
    """Return all that can be seen of a live table and its groups."""
    branch = live.branch()
    ahead = []
    while True:
        try:
            branch.redo()
        except NothingToUndo:
            break
        ahead.append((branch.table, branch.rules))
    branch, past = live.branch(), []
    while len(branch) > 0:
        branch.undo()
        past.append((branch.table, branch.rules))
    return live.table, live.rules, len(live), str(live), list(live.losses()), past, ahead


class LiveTest(Case):

    def test_examples(self):
        self.examples(EXAMPLES, {**globals(), **KNOWN})

    def is_like_new(self, live, table, rules, groups):
        self.assertEqual((live.table, live.rules), (table, rules))
        new = Live(table, rules)
        self.assertIs(live == new, True)
        self.assertEqual(live.order_paper(), order_paper(rules))
        self.assertIs(is_order_paper(rules, live.order_paper()), True)
        if chain(rules) is None:
            for call in (live.least_loss, live.greatest_keep, live.keep_paper):
                self.chainless(rules, call)
        else:
            self.assertEqual([live.least_loss(), live.greatest_keep()], [least_loss(table, rules), greatest_keep(table, rules)])
            self.assertEqual(live.keep_paper(), keep_paper(table, rules))
            self.assertIs(is_keep_paper(table, rules, live.keep_paper()), True)
            for index in range(len(table)):
                worth = table.scale.minus(least_loss(table, rules), least_loss(table.without(index), rules))
                self.assertEqual([live.worth(index), new.worth(index)], [worth, worth])
        high, bound = live.bounds()
        self.assertEqual((high, bound), new.bounds())
        self.assertEqual(bound, doubled_bound(table, rules))
        self.assertIn(high, [lost(table, keep) for keep in all_keeps(table, rules)])
        self.assertFalse(table.scale.is_less(bound, high))
        self.assertEqual([len(live), bool(live)], [groups, groups > 0])
        self.assertEqual(str(live), f"live table of {len(table)} rows, {len(rules)} rules, {groups} groups")

    def test_any_edits_in_each_scale(self):
        """Edit, undo and redo at random, beside a list of the moments by the tests' own."""
        chance = random.Random(17)
        for number in range(9):
            scale = SCALES[number % 3]
            moments, at = [(some_table(ABC, number % 4, 2, scale, number), Rules(ABC))], 0
            live = Live(*moments[0])
            for _ in range(14):
                before = loss_of(*moments[at])
                what = chance.random()
                if what < 0.2 and at > 0:
                    many = chance.randint(0, at)
                    news, at = live.undo(many), at - many
                elif what < 0.4 and at < len(moments) - 1:
                    many = chance.randint(0, len(moments) - 1 - at)
                    news, at = live.redo(many), at + many
                else:
                    table, rules, group = *moments[at], ()
                    for _ in range(chance.choice((1, 1, 2, 4))):
                        group += (some_edit(chance, table, rules),)
                        table, rules = edited(table, rules, group[-1])
                    told = live.effect(*group), live.effect_all(group)
                    news = live.apply(*group) if what < 0.8 else live.apply_all(group)
                    self.assertEqual(told, (news, news))
                    moments, at = moments[:at + 1] + [(table, rules)], at + 1
                self.assertEqual(news, (before, loss_of(*moments[at])))
                self.is_like_new(live, *moments[at], at)
                self.assertEqual(list(live.losses()), [loss_of(*moment) for moment in moments[:at + 1]])

    def test_groups_single_edits_and_branches_lead_to_the_same(self):
        chance = random.Random(18)
        for number in range(12):
            table, rules = some_table(ABC, 3, 2, SCALES[number % 3], number), Rules(ABC)
            first = Live(table, rules)
            group = ()
            for _ in range(5):
                group += (some_edit(chance, table, rules),)
                table, rules = edited(table, rules, group[-1])
            second, third = Live(first.table, first.rules), first.branch()
            first.apply(*group)
            for edit in group:
                second.apply(edit)
            third.apply_all(group[:2])
            third = third.branch()
            third.apply_all(group[2:])
            self.assertTrue(first == second == third == Live(table, rules))
            self.assertEqual([len(first), len(second), len(third)], [1, 5, 2])
            self.assertEqual(second.undo(5)[0], first.undo()[0])
            self.assertTrue(first == second)

    def test_undo_and_redo(self):
        live = Live(PLAN, TALKS)
        self.assertEqual([live.undo(0), live.redo(0), len(live)], [(4, 4), (4, 4), 0])
        live.apply(("drop", 3))
        live.apply(("weight", 0, 1), ("drop", 1))
        self.assertEqual([len(live), list(live.losses())], [2, [4, 2, 0]])
        self.assertEqual([live.undo(), live.undo(), live.redo(2), live.undo(2)], [(0, 2), (2, 4), (4, 0), (0, 4)])
        self.assertEqual([live.table, live.redo(), live.undo(many=1)], [PLAN, (4, 2), (2, 4)])
        # Edits that are none make no group, so they forget nothing.
        self.assertEqual([live.apply(), live.apply_all(()), len(live), live.effect(), live.effect_all(())], [(4, 4)] * 2 + [0] + [(4, 4)] * 2)
        self.raises(InvalidEdit, lambda: live.apply(("drop", 4)))
        self.assertEqual(live.redo(many=2), (4, 0))
        live.undo()
        self.assertEqual([live.apply(("drop", 0)), len(live), list(live.losses())], [(2, 2), 2, [4, 2, 2]])
        self.raises(NothingToUndo, live.redo, many=1)
        self.assertEqual([live.undo(2), live.table], [(2, 4), PLAN])

    def test_news_without_a_chain(self):
        live = Live(STOCK, NO_PLACES)
        self.assertEqual(live.apply(("rule", ("item",), ("place",))), (0, 1))
        self.assertEqual(live.apply(("rule", ("team",), ("place",))), (1, None))
        self.assertEqual(live.apply(("drop", 0)), (None, None))
        self.assertEqual([list(live.losses()), live.effect(GONE), live.bounds()], [[0, 1, None, None], (None, 0), (0, 0)])
        for call in (live.least_loss, live.greatest_keep, live.keep_paper, lambda: live.worth(0)):
            with self.assertRaises(Chainless) as caught:
                call()
            self.assertIs(is_witness(PLACES, caught.exception.witness), True)
        self.raises(InvalidNumber, lambda: live.worth(2), value=2)
        self.assertEqual([live.undo(2), live.worth(0), live.order_paper()[0]], [(None, 1), 1, "chain"])

    def test_losses_are_those_when_the_first_one_is_asked_for(self):
        live = Live(PLAN, TALKS)
        live.apply(("drop", 0))
        found = live.losses()
        live.apply(("drop", 0))
        self.assertEqual(next(found), 4)
        live.undo(2)
        live.apply(ROOM)
        self.assertEqual(list(found), [2, 0])

    def test_two_hundred_rows_and_sixteen_rules(self):
        for scale in SCALES:
            table = some_table(TALKS.columns, 199, 14, scale, 1)
            live = Live(table, TALKS)
            live.apply(("row", (1, 1, 1), None))
            self.assertEqual(len(live.table), 200)
            for group in ((("row", (1, 1, 1), None),), (("drop", 0), ("row", (1, 1, 1), None), ("row", (1, 1, 1), None))):
                self.raises(InvalidEdit, lambda: live.apply(*group))
                self.raises(InvalidEdit, lambda: live.effect(*group))
            live.apply(("drop", 199), ("row", (2, 2, 2), scale.one))
            self.assertEqual([len(live), live.table[199]], [2, (2, 2, 2)])
        rules = all_rules(ABC)[:17]
        live = Live(Table(ABC), Rules(ABC, *rules[:15]))
        live.apply(("rule",) + rules[15])
        self.raises(InvalidEdit, lambda: live.apply(("rule",) + rules[16]))
        self.raises(InvalidEdit, lambda: live.apply(("rule",) + rules[3]))
        live.apply(("unrule",) + rules[0], ("rule",) + rules[16])
        self.assertEqual(live.rules, Rules(ABC, *rules[1:17]))


class TrialTest(Case):

    def live(self):
        live = Live(PLAN, TALKS)
        live.apply(("drop", 3))
        live.apply(("weight", 0, 1), ROOM)
        live.undo()
        return live

    def test_trials(self):
        live = self.live()
        held = state(live)
        with live.trial() as one:
            self.assertIs(one, live)
            self.assertEqual(state(live), held)
            live.apply(("drop", 0))
            live.undo(2)
            live.apply(("row", (7, 7, 7), 3), ("rule", ("room",), ("talk",)))
            self.assertEqual([len(live), len(live.table)], [1, 5])
        self.assertEqual(state(live), held)
        with live.trial():
            live.redo()
        self.assertEqual(state(live), held)
        self.assertEqual(live.redo(), (2, 3))

    def test_trials_that_end_by_an_error(self):
        live = self.live()
        held = state(live)
        for error in (KeyError, InvalidEdit, TooMany):
            with self.assertRaises(error):
                with live.trial() as one:
                    one.undo()
                    raise error(1)
            self.assertEqual(state(live), held)
        with self.assertRaises(InvalidEdit):
            with live.trial() as one:
                one.apply(("drop", 0))
                one.apply(("drop", 0), ("drop", 99))
        self.assertEqual(state(live), held)

    def test_trials_within_one_another(self):
        live = self.live()
        held = state(live)
        for second in (live.trial(), None):
            first = live.trial()
            with first:
                live.apply(("drop", 0))
                inner = state(live)
                with (second or first) as one:
                    one.undo(2)
                    one.apply(("drop", 1))
                    with live.trial():
                        live.undo()
                    self.assertEqual(len(live), 1)
                self.assertEqual(state(live), inner)
            self.assertEqual(state(live), held)

    def test_a_trial_begins_with_its_block(self):
        live = self.live()
        trial = live.trial()
        live.undo()
        held = state(live)
        for _ in range(2):
            with trial:
                live.redo(2)
            self.assertEqual(state(live), held)

    def test_during(self):
        live = self.live()
        held = state(live)
        self.assertEqual(live.during(lambda one: (one is live, one.undo(), one.apply(("drop", 0)))), (True, (2, 4), (4, 2)))
        self.assertEqual(state(live), held)

        def fails(one):
            one.undo()
            raise KeyError(one.table)

        self.assertRaises(KeyError, lambda: live.during(fails))
        self.assertEqual(state(live), held)
        self.assertIsNone(live.during(lambda one: None))

    def test_branches(self):
        live = self.live()
        branch = live.branch()
        self.assertEqual([state(branch), branch == live], [state(live), True])
        held = state(live)
        branch.redo()
        branch.apply(("drop", 0))
        self.assertEqual(state(live), held)
        self.assertEqual([len(branch), branch == live, live.branch() == live], [3, False, True])
        other = state(branch)
        live.undo()
        live.apply(ROOM)
        self.assertEqual(state(branch), other)
        with live.trial():
            inner = live.branch()
            live.undo()
        self.assertEqual(state(inner), state(live))


class ValueTest(Case):

    def test_equal_live_tables(self):
        live = Live(PLAN, TALKS)
        self.assertIs(live == Live(PLAN, Rules(TALKS.columns, *reversed(TALKS.rules))), True)
        live.apply(("drop", 0), ("row", (9, 9, 9), None))
        other = Live(live.table, live.rules)
        # Groups do not count.
        self.assertEqual([live == other, live != other, len(live), len(other)], [True, False, 1, 0])
        same = [Live(PLAN, TALKS)]
        for value in [*values(), Live(PLAN, NO_RULES), Live(PLAN.weighted(0, 4), TALKS), PLAN, (PLAN, TALKS)]:
            self.assertIs(same[0] == value, isinstance(value, Live) and (value.table, value.rules) == (PLAN, TALKS))
            self.assertIs(same[0] != value, not same[0] == value)

    def test_what_is_returned_gives_no_access(self):
        live = Live(PLAN, TALKS)
        held = live.keep_paper()
        live.keep_paper()[2][4].clear()
        live.keep_paper()[2][6].clear()
        self.assertEqual(live.keep_paper(), held)
        stock = Live(STOCK, PLACES)
        paper = stock.order_paper()
        stock.order_paper()[2].clear()
        try:
            stock.least_loss()
        except Chainless as error:
            error.witness[2].clear()
        self.assertEqual(stock.order_paper(), paper)

    def test_arguments_stay_as_they_were(self):
        table, rules, edits = copy.deepcopy(PLAN), copy.deepcopy(TALKS), (("row", (1, 2, 3), None), ROOM)
        live = Live(table, rules)
        live.apply_all(edits)
        live.effect_all(edits[:1])
        self.raises(InvalidEdit, lambda: live.apply_all(edits))
        self.assertEqual((table, rules, edits), (PLAN, TALKS, (("row", (1, 2, 3), None), ROOM)))


class WrongTest(Case):

    def test_wrong_tables_and_rules(self):
        self.checks_both(Live)
        self.raises(InvalidTable, lambda: Live(None, None))
        self.raises(InvalidRules, lambda: Live(PLAN, None))
        self.raises(InvalidOperation, lambda: Live(PLAN, PLACES))

    def wrong_edits(self):
        """Return what is no edit of PLAN and TALKS, or one that is not possible."""
        kinds = values()
        found = [*kinds, ("row", (1, 1, 1)), ("row", (1, 1, 1), None, None), ("drop",), ("drop", 0, 0), ("weight", 0),
                 ("rule", ("hour",)), ("unrule", ("talk",)), ["drop", 0], ("Drop", 0), ("rows", (1, 1, 1), None), ("", 0),
                 (["drop"], 0), (("drop",), 0), (None, 0), ("drop", 6), ("weight", 6, 1), ("weight", 0, None), ("weight", 0, FORTY * 10),
                 ("rule", ("hour", "room"), ("talk",)), ("rule", ("hour",), ()), ("unrule", ("hour",), ("talk",)),
                 ("rule", ("room", "hour"), ("talk",)), ("rule", ("day",), ("talk",)), ("row", [1, 1, 1], None), ("row", (1, 1, 1), 0),
                 ("row", (1, 1, 1), (1,)), ("row", (1, 1, 1), -1), ("row", (1, 1, True), 1), ("weight", 0, True), ("drop", True)]
        # A row is put in front of some of them, so that the index 4 is possible there.
        found += [("drop", value) for value in kinds if not exactly(value, [0, 1, 2, 3, 4])]
        found += [("weight", value, 1) for value in kinds if not exactly(value, [0, 1, 2, 3, 4])]
        found += [("row", value, 1) for value in kinds if not exactly(value, [(1, 1, 1), (1, 1, 5)])]
        weights = [value for value in kinds if isinstance(value, int) and not isinstance(value, bool) and value > 0]
        found += [("weight", 0, value) for value in kinds if not exactly(value, weights)]
        found += [("row", (1, 1, 1), value) for value in kinds if not exactly(value, weights + [None])]
        names = [(), ("hour",), ("talk",), ("hour", "talk"), PLAN.columns]
        found += [("rule", value, ("room",)) for value in kinds if not exactly(value, names)]
        found += [("rule", ("room",), value) for value in kinds if not exactly(value, names[1:])]
        found += [("unrule", value, ("hour", "room")) for value in kinds if not exactly(value, [("talk",)])]
        found += [("unrule", ("talk",), value) for value in kinds]
        return [one for one in found if not exactly(one, [("drop", 0)])]

    def test_wrong_edits(self):
        live = Live(PLAN, TALKS)
        live.apply(("weight", 0, 2))
        live.undo()
        held = state(live)
        right = ("row", (1, 2, 3), None)
        for wrong in self.wrong_edits():
            for group in ((wrong,), (right, wrong), (wrong, right), (right, ROOM, wrong)):
                for call in (live.apply, live.effect):
                    with self.subTest(group=repr(group)):
                        self.raises(InvalidEdit, lambda: call(*group))
        for call in (live.apply_all, live.effect_all):
            self.raises(InvalidEdit, lambda: call((right, ("drop", 6))))
            self.refuses(InvalidEdit, call, [()], more=[[right], right, {}, "drop"])
        self.assertEqual(state(live), held)

    def test_edits_that_are_possible_or_not_when_they_are_reached(self):
        live = Live(PLAN, TALKS)
        talk = (("talk",), ("hour", "room"))
        for group, right in (((("row", (1, 1, 1), None), ("drop", 4)), True), ((("drop", 4), ("row", (1, 1, 1), None)), False),
                             ((("unrule",) + talk, ("rule",) + talk), True), ((("rule",) + talk, ("unrule",) + talk), False),
                             ((("drop", 3), ("drop", 3)), False), ((("drop", 3), ("drop", 2), ("weight", 1, 5)), True),
                             ((("drop", 0),) * 4, True), ((("drop", 0),) * 5, False), ((ROOM, ROOM), False),
                             ((("drop", 0), ("weight", 3, 5)), False), ((("row", (1, 1, 1), None), ("weight", 4, 5)), True)):
            branch = live.branch()
            if right:
                self.assertEqual(branch.effect(*group), branch.apply(*group))
            else:
                self.raises(InvalidEdit, lambda: branch.effect(*group))
                self.raises(InvalidEdit, lambda: branch.apply(*group))
                self.assertEqual(state(branch), state(live))

    def test_wrong_numbers_of_groups(self):
        live = Live(PLAN, TALKS)
        live.apply(("drop", 3))
        live.apply(("drop", 2))
        live.undo()
        held = state(live)
        for call in (live.undo, live.redo):
            for value in values():
                if not isinstance(value, int) or isinstance(value, bool) or value < 0:
                    self.raises(InvalidNumber, lambda: call(value), value=value)
                elif value > 1:
                    self.raises(NothingToUndo, lambda: call(value), many=value)
        self.assertEqual(state(live), held)
        new = Live(PLAN, TALKS)
        self.raises(NothingToUndo, new.undo, many=1)
        self.raises(NothingToUndo, new.redo, many=1)

    def test_wrong_indices(self):
        live = Live(PLAN, TALKS)
        self.refuses(InvalidNumber, live.worth, [0, 1, 2, 3], "value", more=[4])
        # The index counts ahead of rules without a chain.
        stock = Live(STOCK, PLACES)
        self.refuses(InvalidNumber, lambda value: stock.branch().worth(value) if not exactly(value, [0, 1, 2]) else None,
                     [0, 1, 2], "value")
        self.chainless(PLACES, lambda: stock.worth(0))

    def test_too_many_conflicts(self):
        rules = Rules(("x",), ((), ("x",)))
        live = Live(Table(("x",), *[(at,) for at in range(63)]), rules)
        self.assertEqual(live.bounds()[1], 63)
        live.apply(*[("row", (at,), None) for at in range(63, 66)])
        self.raises(TooMany, live.bounds, limit=2000)
        self.assertEqual(live.least_loss(), 65)


if __name__ == "__main__":
    unittest.main()
