"""[11.1], [11.2] and the module mostkept.keeps.greatest, with [0.12], [0.15] to [0.17]."""

import copy
import random
import unittest

from mostkept.base.scales import Scale
from mostkept.errors import Chainless, InvalidKeep, InvalidOperation, InvalidRules, InvalidStep, InvalidTable
from mostkept.keeps.greatest import amount_of_part, greatest_keep, is_greatest, is_keep_paper, is_part, keep_paper, kept_by
from mostkept.keeps.greatest import least_loss, steps_of
from mostkept.keeps.matchings import matching_paper
from mostkept.orders.chains import chain, chains
from mostkept.orders.witnesses import is_witness
from mostkept.rules.rules import Rules
from mostkept.tables.conflicts import clusters, is_full, is_keep, rivals
from mostkept.tables.tables import Table
from tests.helper import ALL, KNOWN, NO_PLACES, NO_RULES, PLACES, PLAN, STOCK, TALKS, Case, otherwise, plain, values
from tests.search import SCALES, all_closed, all_keeps, all_steps, lost, small_rules, some_rules, some_table, struck_by

EXAMPLES = """
>>> [greatest_keep(PLAN, TALKS), least_loss(PLAN, TALKS), is_greatest(PLAN, TALKS, (1, 3))]
[(0, 2), 4, False]
>>> parts = {((1, 1), (5,)): ("all",), ((1, 1), (6,)): ("all",), ((1, 2), (6,)): ("all",), ((2, 1), (5,)): ("all",)}
>>> prices, others = {(1, 1): 0, (1, 2): 0, (2, 1): 0}, {(5,): 3, (6,): 2}
>>> part = ("pair", ("hour", "room"), ("talk",), (((1, 1), (5,)), ((1, 2), (6,))), prices, others, parts)
>>> [is_keep_paper(PLAN, TALKS, ("keep", (0, 2), part)), kept_by(PLAN, TALKS, part), amount_of_part(PLAN, TALKS, part)]
[True, (0, 2), 5]
"""
PAIR = ("pair", ("hour", "room"), ("talk",))
PLAN_PARTS = {((1, 1), (5,)): ALL, ((1, 1), (6,)): ALL, ((1, 2), (6,)): ALL, ((2, 1), (5,)): ALL}
PLAN_PART = PAIR + ((((1, 1), (5,)), ((1, 2), (6,))), {(1, 1): 0, (1, 2): 0, (2, 1): 0}, {(5,): 3, (6,): 2}, PLAN_PARTS)
EIGHT = tuple("abcdefgh")
AB, ABC, ABCD = ("a", "b"), ("a", "b", "c"), ("a", "b", "c", "d")
DAILY = Rules(("day", "room", "talk"), (("day", "room"), ("talk",)), (("day", "talk"), ("room",)))
ONE = Rules(("x",), ((), ("x",)))


def chained():
    """Return rules of all kinds that have a chain."""
    found = small_rules()[1::3] + some_rules(ABCD, 4, 60, 1) + [TALKS, DAILY, ONE]
    return [rules for rules in found if chain(rules) is not None]


def cases():
    return [(some_table(rules.columns, number % 8, 2 + number % 2, SCALES[number % 3], number), rules)
            for number, rules in enumerate(chained())]


def values_in(table, index, columns):
    return tuple(table[index][table.columns.index(name)] for name in columns)


def any_part(table, rules, indices, chance):
    """Return a right part that takes any steps, others in each place, and the rows that stay by it."""
    if all_closed(rules):
        return ALL, indices
    step = chance.choice(all_steps(rules))
    grouped = {}
    for index in indices:
        sides = [values_in(table, index, side) for side in (step[1:] if step[0] == "pair" else [step[1:]])]
        grouped.setdefault(tuple(sides) if step[0] == "pair" else sides[0][0], []).append(index)
    made = {key: any_part(table, rules.struck(*struck_by(step)), tuple(some), chance) for key, some in grouped.items()}
    parts = {key: part for key, (part, _) in made.items()}
    if step[0] == "common":
        return step + (parts,), tuple(sorted(index for _, kept in made.values() for index in kept))
    worths = {key: table.amount_of(kept) for key, (_, kept) in made.items()}
    if step[0] == "fixed":
        best = [key for key in worths if not any(table.scale.is_less(worths[key], one) for one in worths.values())]
        value = chance.choice(best) if best else None
        return step + (value, parts), made[value][1] if best else ()
    paper = matching_paper(table.scale, worths)
    return step + paper[1:] + (parts,), tuple(sorted(index for key in paper[1] for index in made[key][1]))


class GreatestTest(Case):

    def test_examples(self):
        self.examples(EXAMPLES, {**globals(), **KNOWN})

    def test_greatest_keeps_by_search(self):
        for table, rules in cases():
            found = all_keeps(table, rules)
            least = table.scale.least(*[lost(table, keep) for keep in found])
            keep = greatest_keep(table, rules)
            self.assertIn(keep, found)
            self.assertEqual(lost(table, keep), least)
            self.assertEqual(least_loss(table, rules), least)
            self.assertIs(is_full(table, rules, keep), True)
            for some in found:
                self.assertIs(is_greatest(table, rules, some), lost(table, some) == least)

    def test_keep_papers_along_each_chain(self):
        for table, rules in cases():
            least = least_loss(table, rules)
            self.assertIs(is_keep_paper(table, rules, keep_paper(table, rules)), True)
            self.assertEqual(keep_paper(table, rules, along=None)[1], greatest_keep(table, rules))
            for steps in list(chains(rules))[:8]:
                paper = keep_paper(table, rules, along=steps)
                self.assertIs(is_keep_paper(table, rules, paper), True)
                self.assertEqual(lost(table, paper[1]), least)
                self.assertEqual(greatest_keep(table, rules, along=steps), paper[1])
                self.assertEqual(kept_by(table, rules, paper[2]), paper[1])
                self.assertEqual(amount_of_part(table, rules, paper[2]), table.amount_of(paper[1]))
                self.has_steps(paper[2], steps, len(table))

    def has_steps(self, part, steps, many):
        """Check that all parts take the steps, in this order, and that the keys of dicts ascend."""
        if not steps:
            self.assertEqual(part, ALL)
            return
        self.assertEqual(part[:3] if part[0] == "pair" else part[:2], steps[0])
        for one in part:
            if isinstance(one, dict):
                self.assertEqual(list(one), sorted(one))
        for inner in part[-1].values():
            self.has_steps(inner, steps[1:], many)

    def test_tables_without_rows(self):
        for rules in chained():
            for scale in SCALES:
                table = Table(rules.columns, scale=scale)
                self.assertEqual([greatest_keep(table, rules), least_loss(table, rules)], [(), scale.zero])
                self.assertIs(is_keep_paper(table, rules, keep_paper(table, rules)), True)
                self.assertIs(is_greatest(table, rules, ()), True)
        empty = Table(("x",))
        self.assertEqual(keep_paper(empty, ONE), ("keep", (), ("fixed", "x", None, {})))
        self.assertEqual(keep_paper(PLAN.only(), TALKS), ("keep", (), PAIR + ((), {}, {}, {})))
        self.assertEqual(keep_paper(PLAN.only(), DAILY.renamed(day="hour"))[2][0], "common")
        for wrong in (("fixed", "x", 0, {}), ("fixed", "x", {}, {}), ("fixed", "x", None, {None: ALL}), ("fixed", "x", None, {1: ALL}),
                      ALL, ("fixed", "x", None), ("fixed", "x", None, ()), ("fixed", "x", False, {}), ("common", "x", {})):
            self.assertIs(is_part(empty, ONE, wrong), False)

    def test_parts_without_rows_need_no_chain(self):
        wide = Rules(ABCD, (("a", "d"), ("c",)), (("b", "d"), ("c",)))
        self.assertIs(chain(wide), None)
        empty = Table(ABCD)
        self.assertIs(is_keep_paper(empty, wide, ("keep", (), ("common", "d", {}))), True)
        self.assertEqual(list(steps_of(empty, wide, ("keep", (), ("common", "d", {})))), [("common", "d")])
        self.raises(Chainless, lambda: keep_paper(empty, wide), witness=self.witness_of(wide, lambda: keep_paper(empty, wide)))

    def witness_of(self, rules, call):
        try:
            call()
        except Chainless as error:
            self.assertIs(is_witness(rules, error.witness), True)
            return error.witness
        self.fail("no error")

    def test_two_hundred_rows(self):
        for scale in SCALES:
            for rules, most in ((TALKS, 14), (DAILY, 8), (Rules(EIGHT, (EIGHT[:4], EIGHT), (EIGHT[4:], EIGHT)), 2),
                                (Rules(EIGHT, (EIGHT[:7], EIGHT)), 2), (Rules(EIGHT, ((), EIGHT)), 2), (NO_RULES, 3)):
                table = some_table(rules.columns, 200, most, scale, 7)
                paper = keep_paper(table, rules)
                self.assertIs(is_keep_paper(table, rules, paper), True)
                self.assertIs(is_keep(table, rules, paper[1]), True)
                self.assertEqual(least_loss(table, rules), lost(table, paper[1]))

    def test_what_is_not_true(self):
        columns, rules = ("x", "y"), Rules(("x", "y"), (("x",), ("y",)))
        # The value that occurs most often does not stay, and a greatest keep has not the most rows.
        table = Table(columns, (1, 1), (1, 1), (1, 2), weights=(1, 1, 3))
        self.assertEqual(greatest_keep(table, rules), (2,))
        # The row with the most conflicts stays.
        self.assertEqual([len(rivals(table, rules, index)) for index in range(3)], [1, 1, 2])
        # Two tables together lose more than each alone.
        one, two = Table(columns, (1, 1)), Table(columns, (1, 2))
        self.assertEqual([least_loss(one, rules), least_loss(two, rules), least_loss(one | two, rules)], [0, 0, 1])
        # By odds another keep is greatest than by sums of the same order.
        rows, groups = ((1, 1), (1, 1), (1, 2)), Scale.odds()
        self.assertEqual(greatest_keep(Table(columns, *rows, weights=(3, 3, 5)), rules), (0, 1))
        self.assertEqual(greatest_keep(Table(columns, *rows, scale=groups, weights=((3, 2), (3, 2), (5, 1))), rules), (2,))

    def test_losses_of_clusters_add_up(self):
        for table, rules in cases():
            losses = [least_loss(table.only(*cluster), rules) for cluster in clusters(table, rules)]
            self.assertEqual(table.scale.plus(*losses), least_loss(table, rules))


class PapersTest(Case):

    def test_parts_by_different_steps(self):
        chance = random.Random(3)
        for table, rules in cases():
            for _ in range(3):
                part, kept = any_part(table, rules, tuple(range(len(table))), chance)
                self.assertIs(is_part(table, rules, part), True)
                self.assertEqual(kept_by(table, rules, part), kept)
                self.assertEqual(amount_of_part(table, rules, part), table.amount_of(kept))
                self.assertIs(is_keep_paper(table, rules, ("keep", kept, part)), True)
                self.assertEqual(lost(table, kept), least_loss(table, rules))

    def test_steps_of_papers(self):
        table = Table(("day", "room", "talk"), (1, 1, 1), (1, 1, 2), (2, 1, 1), (2, 2, 1), (2, 2, 1))
        there = ("common", "day", {1: ("pair", ("room",), ("talk",), (((1,), (1,)),), {(1,): 0}, {(1,): 1, (2,): 1},
                                       {((1,), (1,)): ALL, ((1,), (2,)): ALL}),
                                   2: ("pair", ("room",), ("talk",), (((2,), (1,)),), {(1,): 0, (2,): 1}, {(1,): 1},
                                       {((1,), (1,)): ALL, ((2,), (1,)): ALL})})
        self.assertIs(is_part(table, DAILY, there), False)
        right = ("common", "day", {**there[2], 1: there[2][1][:4] + ({(1,): 1}, {(1,): 0, (2,): 0}, there[2][1][6])})
        self.assertEqual(kept_by(table, DAILY, right), (0, 3, 4))
        self.assertEqual(list(steps_of(table, DAILY, ("keep", (0, 3, 4), right))),
                         [("common", "day"), ("pair", ("room",), ("talk",)), ("pair", ("room",), ("talk",))])
        wide = Rules(ABC, (("a", "b"), ("c",)))
        table = Table(ABC, (2, 1, 1), (1, 1, 1), (1, 1, 2), (1, 3, 1))
        inner = {1: ("common", "b", {3: ("fixed", "c", 1, {1: ALL}), 1: ("fixed", "c", 2, {1: ALL, 2: ALL})}),
                 2: ("common", "b", {1: ("fixed", "c", 1, {1: ALL})})}
        part = ("common", "a", {2: inner[2], 1: inner[1]})
        self.assertEqual(list(steps_of(table, wide, ("keep", (0, 2, 3), part))),
                         [("common", "a"), ("common", "b"), ("fixed", "c"), ("fixed", "c"), ("common", "b"), ("fixed", "c")])
        self.assertEqual(list(steps_of(PLAN, TALKS, ("keep", (0, 2), PLAN_PART))), [PAIR])
        self.assertEqual(list(steps_of(PLAN, NO_RULES, ("keep", (0, 1, 2, 3), ALL))), [])

    def test_steps_of_any_papers(self):
        chance = random.Random(4)
        for table, rules in cases():
            part, kept = any_part(table, rules, tuple(range(len(table))), chance)
            self.assertEqual(list(steps_of(table, rules, ("keep", kept, part))), list(self.steps_in(part)))

    def steps_in(self, part):
        if part != ALL:
            yield part[:3] if part[0] == "pair" else part[:2]
            for key in sorted(part[-1]):
                yield from self.steps_in(part[-1][key])

    def test_papers_with_one_thing_otherwise(self):
        chance = random.Random(5)
        found = [("keep", (0, 2), PLAN_PART, PLAN, TALKS)]
        for table, rules in cases()[::9]:
            part, kept = any_part(table, rules, tuple(range(len(table))), chance)
            found.append(("keep", kept, part, table, rules))
        for word, kept, part, table, rules in found:
            self.assertTrue(self.right_paper(table, rules, (word, kept, part)))
            for wrong in otherwise((word, kept, part)):
                # Some are right otherwise: with another value of a fixed step that keeps as much.
                self.assertIs(is_keep_paper(table, rules, wrong), self.right_paper(table, rules, wrong))

    def right_paper(self, table, rules, value):
        if not (isinstance(value, tuple) and len(value) == 3 and value[0] == "keep" and plain(value[1])):
            return False
        kept = self.right_part(table, rules, tuple(range(len(table))), value[2])
        return kept is not None and kept == value[1]

    def right_part(self, table, rules, indices, part):
        """Return what stays by the part by the words of [0.15], or None."""
        if part == ALL:
            return indices if all_closed(rules) else None
        if not isinstance(part, tuple) or len(part) not in (3, 4, 7) or not isinstance(part[-1], dict):
            return None
        step = part[:3] if len(part) == 7 else part[:2]
        if step not in all_steps(rules) or {"common": 3, "fixed": 4, "pair": 7}[step[0]] != len(part):
            return None
        grouped = {}
        for index in indices:
            sides = [values_in(table, index, side) for side in (step[1:] if step[0] == "pair" else [step[1:]])]
            grouped.setdefault(tuple(sides) if step[0] == "pair" else sides[0][0], []).append(index)
        if set(part[-1]) != set(grouped) or not all(plain(key) for key in part[-1]):
            return None
        kept = {key: self.right_part(table, rules.struck(*struck_by(step)), tuple(some), part[-1][key])
                for key, some in grouped.items()}
        if None in kept.values():
            return None
        if step[0] == "common":
            chosen = list(kept)
        elif step[0] == "fixed":
            chosen = self.right_value(table, kept, part[2])
        else:
            chosen = self.right_pairs(table, kept, *part[3:6])
        return None if chosen is None else tuple(sorted(index for key in chosen for index in kept[key]))

    def right_value(self, table, kept, value):
        if not kept:
            return [] if value is None else None
        if not plain(value) or value not in list(kept):
            return None
        amounts = {key: table.amount_of(kept[key]) for key in kept}
        return None if any(table.scale.is_less(amounts[value], one) for one in amounts.values()) else [value]

    def right_pairs(self, table, kept, pairs, prices, others):
        scale = table.scale
        if not (isinstance(pairs, tuple) and plain(pairs) and all(pair in list(kept) for pair in pairs)):
            return None
        if list(pairs) != sorted(set(pairs)) or len({one for one, _ in pairs}) < len(pairs) or len({two for _, two in pairs}) < len(pairs):
            return None
        for side, told in enumerate((prices, others)):
            if not isinstance(told, dict) or not all(plain(key) for key in told) or set(told) != {key[side] for key in kept}:
                return None
            if not all(one in scale and scale.sign(one) >= 0 for one in told.values()):
                return None
        amounts = {key: table.amount_of(kept[key]) for key in kept}
        if any(scale.is_less(scale.plus(prices[one], others[two]), amounts[one, two]) for one, two in kept):
            return None
        paid = scale.plus(*prices.values(), *others.values())
        return pairs if paid == scale.plus(*[amounts[pair] for pair in pairs]) else None

    def test_parts_by_hand(self):
        for wrong in (ALL, ("all", ()), ["all"], PLAN_PART[:6], PLAN_PART + ((),), ("fixed", "talk", 5, PLAN_PARTS), list(PLAN_PART),
                      ("common", "talk", {5: ALL, 6: ALL}), PLAN_PART[:3] + (PLAN_PART[3][::-1],) + PLAN_PART[4:], None, (), "all",
                      PLAN_PART[:3] + (list(PLAN_PART[3]),) + PLAN_PART[4:], PLAN_PART[:6] + ({**PLAN_PARTS, ((1, 1), (7,)): ALL},),
                      PLAN_PART[:1] + (("talk",), ("hour", "room")) + PLAN_PART[3:]):
            self.assertIs(is_part(PLAN, TALKS, wrong), False)
            for indices in ((0, 2), (), None):
                self.assertIs(is_keep_paper(PLAN, TALKS, ("keep", indices, wrong)), False)
            self.raises(InvalidOperation, lambda: kept_by(PLAN, TALKS, wrong))
            self.raises(InvalidOperation, lambda: amount_of_part(PLAN, TALKS, wrong))
            self.raises(InvalidOperation, lambda: next(steps_of(PLAN, TALKS, ("keep", (0, 2), wrong))))
        self.assertIs(is_part(PLAN, TALKS, PLAN_PART), True)
        rows = Table(("x",), (1,), (2,), (1,), (3,), (3,))
        parts = {1: ALL, 2: ALL, 3: ALL}
        self.assertEqual([kept_by(rows, ONE, ("fixed", "x", value, parts)) for value in (1, 3)], [(0, 2), (3, 4)])
        for value in (2, 4, None, True, "1", (1,), [1], {}):
            self.assertIs(is_part(rows, ONE, ("fixed", "x", value, parts)), False)
        self.assertIs(is_part(rows, ONE, ("fixed", "x", 3, {True: ALL, 2: ALL, 3: ALL})), False)
        self.assertIs(is_part(rows, ONE, ("fixed", "x", 3, {3: ALL, 2: ALL, 1: ALL})), True)
        self.assertIs(is_part(rows, ONE, ("fixed", "x", 3, {1: ALL, 3: ALL})), False)
        self.assertIs(is_keep_paper(rows, ONE, ("keep", (0, 2), ("fixed", "x", 3, parts))), False)
        self.assertIs(is_keep_paper(rows.only(0, 1), ONE, ("keep", (True,), ("fixed", "x", 2, {1: ALL, 2: ALL}))), False)
        self.assertIs(is_keep_paper(rows.only(0, 1), ONE, ("keep", (1,), ("fixed", "x", 2, {1: ALL, 2: ALL}))), True)

    def test_values_that_are_papers(self):
        self.accepts(lambda value: is_part(PLAN, NO_RULES, value), [ALL], [ALL, ["all"], ("all", ()), ("All",)])
        self.accepts(lambda value: is_part(PLAN, TALKS, value), [PLAN_PART], [PLAN_PART, ALL])
        self.accepts(lambda value: is_keep_paper(PLAN, TALKS, value), [("keep", (0, 2), PLAN_PART)],
                     [("keep", (0, 2), PLAN_PART), ("keep", (1, 3), PLAN_PART), ("keep", [0, 2], PLAN_PART), ("Keep", (0, 2), PLAN_PART),
                      ["keep", (0, 2), PLAN_PART], ("keep", (0, 2), PLAN_PART, ()), ("keep", (0, 2)), PLAN_PART])
        self.accepts(lambda value: is_part(STOCK, PLACES, value), [], [ALL])


class WrongTest(Case):

    def test_wrong_tables_and_rules(self):
        for call in (greatest_keep, least_loss, keep_paper, lambda table, rules: greatest_keep(table, rules, along=3),
                     lambda table, rules: keep_paper(table, rules, along=3), lambda table, rules: is_keep_paper(table, rules, None),
                     lambda table, rules: is_part(table, rules, None), lambda table, rules: kept_by(table, rules, None),
                     lambda table, rules: amount_of_part(table, rules, None), lambda table, rules: is_greatest(table, rules, None),
                     lambda table, rules: next(steps_of(table, rules, None))):
            for value in values():
                if not isinstance(value, Table):
                    self.raises(InvalidTable, lambda: call(value, TALKS))
                    self.raises(InvalidTable, lambda: call(value, None))
                if not isinstance(value, Rules):
                    self.raises(InvalidRules, lambda: call(PLAN, value))
            self.raises(InvalidOperation, lambda: call(PLAN, PLACES))
            self.raises(InvalidOperation, lambda: call(STOCK, NO_RULES))

    def test_wrong_chains(self):
        for call in (greatest_keep, keep_paper):
            self.refuses(InvalidStep, lambda value: call(PLAN, TALKS, along=value), [None])
            self.refuses(InvalidStep, lambda value: call(PLAN, NO_RULES, along=value), [None, ()])
            call(PLAN, TALKS, along=(PAIR,))
            for wrong in ([PAIR], (PAIR, PAIR), (), (list(PAIR),)):
                self.raises(InvalidStep, lambda: call(PLAN, TALKS, along=wrong))
            # A chain that is none counts ahead of rules that have none.
            for value in values():
                if value is not None:
                    self.raises(InvalidStep, lambda: call(STOCK, PLACES, along=value))

    def test_rules_without_a_chain(self):
        for call in (lambda: greatest_keep(STOCK, PLACES), lambda: least_loss(STOCK, PLACES), lambda: keep_paper(STOCK, PLACES),
                     lambda: keep_paper(STOCK, PLACES, along=None), lambda: is_greatest(STOCK, PLACES, (1, 2))):
            with self.assertRaises(Chainless) as caught:
                call()
            self.assertIs(is_witness(PLACES, caught.exception.witness), True)
        self.raises(InvalidKeep, lambda: is_greatest(STOCK, PLACES, (0, 1)))
        self.assertEqual(greatest_keep(STOCK, NO_PLACES), (0, 1, 2))

    def test_wrong_keeps_parts_and_papers(self):
        self.refuses(InvalidKeep, lambda value: is_greatest(PLAN, TALKS, value), [(), (0,), (1,), (2,)])
        self.refuses(InvalidOperation, lambda value: kept_by(PLAN, TALKS, value), [PLAN_PART], more=[PLAN_PART])
        self.refuses(InvalidOperation, lambda value: amount_of_part(PLAN, TALKS, value), [PLAN_PART], more=[PLAN_PART])
        right = ("keep", (0, 2), PLAN_PART)
        self.refuses(InvalidOperation, lambda value: list(steps_of(PLAN, TALKS, value)), [right], more=[right, PLAN_PART])
        self.refuses(InvalidOperation, lambda value: list(steps_of(STOCK, PLACES, value)))

    def test_generators_raise_when_the_first_result_is_asked_for(self):
        for found, error in ((steps_of(None, TALKS, None), InvalidTable), (steps_of(PLAN, None, None), InvalidRules),
                             (steps_of(PLAN, TALKS, None), InvalidOperation)):
            self.raises(error, lambda: next(found))

    def test_nothing_changes(self):
        table, rules, paper = copy.deepcopy(PLAN), copy.deepcopy(TALKS), ("keep", (0, 2), copy.deepcopy(PLAN_PART))
        keep_paper(table, rules)[2][4].clear()
        is_keep_paper(table, rules, paper), list(steps_of(table, rules, paper)), kept_by(table, rules, paper[2])
        self.raises(InvalidOperation, lambda: kept_by(table, rules, paper))
        self.raises(InvalidStep, lambda: keep_paper(table, rules, along=(PAIR, PAIR)))
        self.assertEqual((table, rules, paper), (PLAN, TALKS, ("keep", (0, 2), PLAN_PART)))
        self.assertIs(is_keep_paper(table, rules, keep_paper(table, rules)), True)


if __name__ == "__main__":
    unittest.main()
