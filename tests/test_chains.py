"""[8.1], [8.2] and the module mostkept.orders.chains, with [0.13] and [0.16]."""

import copy
import itertools
import unittest

from mostkept.errors import InvalidRules, InvalidStep
from mostkept.orders.chains import behind, behind_all, chain, chain_lengths, chains, is_chain, is_step, rest, steps
from mostkept.rules.covers import are_alike, lean_cover
from mostkept.rules.rules import Rules
from tests.helper import KNOWN, NO_COLUMNS, NO_PLACES, NO_RULES, PLACES, TALKS, Case, values
from tests.search import all_chains, all_closed, all_steps, all_walks, small_rules, some_rules, struck_by

EXAMPLES = """
>>> [chain(TALKS), behind_all(TALKS, chain(TALKS)).columns, steps(PLACES), chain(PLACES), rest(PLACES) == PLACES]
[(('pair', ('hour', 'room'), ('talk',)),), (), (), None, True]
>>> daily = Rules(("day", "room", "talk"), (("day", "room"), ("talk",)), (("day", "talk"), ("room",)))
>>> [list(chains(daily)), chain_lengths(daily), is_step(daily, ("common", "room"))]
[[(('common', 'day'), ('pair', ('room',), ('talk',))), (('pair', ('day', 'room'), ('day', 'talk')),)], (1, 2), False]
"""
EIGHT = tuple("abcdefgh")
RULES = [TALKS, PLACES, NO_RULES, NO_COLUMNS, NO_PLACES]
DAILY = Rules(("day", "room", "talk"), (("day", "room"), ("talk",)), (("day", "talk"), ("room",)))
PAIR = ("pair", ("hour", "room"), ("talk",))
MANY = small_rules() + some_rules(("a", "b", "c", "d"), 4, 60, 1) + some_rules(tuple("abcde"), 3, 30, 2)


class StepsTest(Case):

    def test_examples(self):
        self.examples(EXAMPLES, {**globals(), **KNOWN})

    def test_steps(self):
        for rules in MANY:
            expected = all_steps(rules)
            self.assertEqual(steps(rules), expected)
            self.assertTrue(all(is_step(rules, step) for step in expected))
            words = [step[0] for step in expected]
            self.assertLessEqual(words.count("pair"), 1)
            self.assertTrue("fixed" not in words or set(words) == {"fixed"})

    def test_all_words(self):
        self.assertEqual(steps(Rules(("a", "b", "c"), (("a", "b"), ("c",)))), (("common", "a"), ("common", "b")))
        self.assertEqual(steps(Rules(("a", "b", "c"), ((), ("a",)), (("a",), ("b",)))), (("fixed", "a"), ("fixed", "b")))
        self.assertEqual(steps(DAILY), (("common", "day"), ("pair", ("day", "room"), ("day", "talk"))))
        self.assertEqual([steps(rules) for rules in RULES], [(PAIR,), (), (), (), ()])
        self.assertEqual(steps(Rules(("a", "b", "c"), (("a",), ("b", "c")), (("b",), ("a",)))),
                         (("pair", ("a",), ("b",)),))
        # Two triggers whose closures are not the same.
        self.assertEqual(steps(Rules(("a", "b", "c"), (("a",), ("b",)), (("c",), ("b",)))), ())

    def test_rules_from_which_the_same_follows(self):
        for rules in MANY:
            for other in (Rules(rules.columns, *rules.plain), lean_cover(rules)):
                self.assertIs(are_alike(rules, other), True)
                self.assertEqual(steps(other), steps(rules))
                self.assertEqual(chain(other) is None, chain(rules) is None)
                self.assertEqual(list(chains(other)), list(chains(rules)))

    def test_values_that_are_steps(self):
        self.accepts(lambda value: is_step(TALKS, value), [PAIR], [PAIR, list(PAIR), PAIR[:2], PAIR + ((),)])
        self.accepts(lambda value: is_step(Rules(("a", "b"), (("a",), ("b",))), value), [("common", "a")],
                     [("common", "a"), ["common", "a"], ("common", "b"), ("fixed", "a"), ("common", ("a",)), ("common",)])
        self.accepts(lambda value: is_step(Rules(("a", "b"), ((), ("b",))), value), [("fixed", "b")],
                     [("fixed", "b"), ("fixed", "a"), ("common", "b"), ("fixed", "b", 1)])
        for wrong in (("pair", ("talk",), ("hour", "room")), ("pair", ["hour", "room"], ("talk",)), ("common", "talk"),
                      ("pair", ("room", "hour"), ("talk",)), ("Pair", ("hour", "room"), ("talk",))):
            self.assertIs(is_step(TALKS, wrong), False)

    def test_behind(self):
        for rules in MANY:
            self.assertEqual(behind(rules), rules)
            self.assertEqual(behind_all(rules, ()), rules)
            for walk, end in all_walks(rules):
                self.assertEqual(behind(rules, *walk), end)
                self.assertEqual(behind_all(rules, walk), end)
                for many in range(len(walk)):
                    struck = set().union(*[struck_by(step) for step in walk[:many]])
                    self.assertEqual(behind(rules, *walk[:many]), rules.struck(*struck))

    def test_exchanged_steps(self):
        for rules in MANY:
            for one, two in itertools.permutations(steps(rules), 2):
                left = behind(rules, one)
                if two[0] != "pair":
                    self.assertTrue(is_step(left, two) or two[1] not in left.columns)
                else:
                    self.assertTrue(is_step(left, ("pair", *sorted(tuple(name for name in side if name in left.columns)
                                                                   for side in two[1:]))))

    def test_wrong_steps(self):
        self.refuses(InvalidStep, lambda value: behind(TALKS, value))
        self.refuses(InvalidStep, lambda value: behind(TALKS, PAIR, value))
        self.refuses(InvalidStep, lambda value: behind_all(TALKS, value), [()])
        self.refuses(InvalidStep, lambda value: behind_all(TALKS, (value,)))
        self.assertEqual(behind_all(TALKS, (PAIR,)).columns, ())
        for wrong in ([PAIR], (PAIR, PAIR), (list(PAIR),), PAIR, ((("pair",) + PAIR[:0:-1]),)):
            self.raises(InvalidStep, lambda: behind_all(TALKS, wrong))
        self.raises(InvalidStep, lambda: behind(DAILY, ("common", "day"), ("pair", ("day", "room"), ("day", "talk"))))
        self.assertEqual(behind(DAILY, ("common", "day"), ("pair", ("room",), ("talk",))), Rules(()))


class ChainsTest(Case):

    def test_chains(self):
        for rules in MANY:
            expected = all_chains(rules)
            self.assertEqual(list(chains(rules)), expected)
            self.assertTrue(all(is_chain(rules, one) for one in expected))
            found = chain(rules)
            if expected:
                self.assertIn(found, expected)
                self.assertEqual(chain_lengths(rules), (min(map(len, expected)), max(map(len, expected))))
            else:
                self.assertIs(found, None)
                self.assertIs(chain_lengths(rules), None)

    def test_rest(self):
        for rules in MANY:
            ends = [end for _, end in all_walks(rules)]
            self.assertTrue(all(end == rest(rules) for end in ends))
            # Each sequence of steps that cannot be continued is a chain, or none is.
            self.assertEqual(chain(rules) is not None, all_closed(rest(rules)))
            self.assertEqual(len(list(chains(rules))), len(ends) if all_closed(rest(rules)) else 0)

    def test_rules_without_steps(self):
        for rules in (NO_RULES, NO_COLUMNS, Rules(("a",), (("a",), ("a",)))):
            self.assertEqual([chain(rules), list(chains(rules)), chain_lengths(rules), rest(rules)], [(), [()], (0, 0), rules])
        self.assertEqual([chain(PLACES), list(chains(PLACES)), chain_lengths(PLACES), rest(PLACES)], [None, [], None, PLACES])

    def test_eight_columns(self):
        for rules, many in ((Rules(EIGHT, (EIGHT[:7], EIGHT)), 5040), (Rules(EIGHT, ((), EIGHT)), 40320)):
            found = list(chains(rules))
            self.assertEqual((len(found), found), (many, sorted(found)))
            self.assertEqual(chain_lengths(rules), (8, 8))
        both = Rules(EIGHT, (("a", "b", "c"), EIGHT), (("a", "b", "d"), EIGHT))
        self.assertEqual(chain_lengths(both), (5, 7))
        self.assertEqual(list(chains(both)), all_chains(both))

    def test_what_is_not_true(self):
        # Each rule alone has a chain, and all together have none.
        self.assertTrue(all(chain(Rules(PLACES.columns, rule)) is not None for rule in PLACES.rules))
        # Rules have a chain, and some of them have none; so one more rule can lead to a chain.
        columns = ("a", "b", "c")
        some = Rules(columns, (("a",), ("b",)), (("b",), ("c",)))
        self.assertEqual((chain(some), chain(some.with_rule((), ("b",))) is None), (None, False))

    def test_values_that_are_chains(self):
        self.accepts(lambda value: is_chain(TALKS, value), [], [()])
        self.accepts(lambda value: is_chain(NO_RULES, value), [()])
        self.accepts(lambda value: is_chain(PLACES, value), [])
        self.assertIs(is_chain(TALKS, (PAIR,)), True)
        for wrong in ([PAIR], (PAIR, PAIR), (list(PAIR),), PAIR, (), (("pair", ("talk",), ("hour", "room")),), (None,)):
            self.assertIs(is_chain(TALKS, wrong), False)
        one = ("common", "day")
        for wrong in ((one,), (one, ("pair", ("day", "room"), ("day", "talk"))), (("pair", ("room",), ("talk",)), one),
                      (one, ("pair", ("room",), ("talk",)), one)):
            self.assertIs(is_chain(DAILY, wrong), False)

    def test_wrong_rules(self):
        for call in (steps, chain, rest, chain_lengths, behind, lambda value: next(chains(value)),
                     lambda value: is_step(value, None), lambda value: is_chain(value, None),
                     lambda value: behind(value, None), lambda value: behind_all(value, None)):
            for value in values():
                if not isinstance(value, Rules):
                    self.raises(InvalidRules, lambda: call(value))
        for call in (steps, chain, rest, chain_lengths, behind, lambda value: list(chains(value))):
            for rules in RULES:
                call(rules)
        found = chains(None)
        self.raises(InvalidRules, lambda: next(found))

    def test_nothing_changes(self):
        rules = copy.deepcopy(DAILY)
        chain(rules), list(chains(rules)), rest(rules), behind(rules, ("common", "day"))
        self.assertEqual((rules, rules.plain, rules.columns), (DAILY, DAILY.plain, DAILY.columns))


if __name__ == "__main__":
    unittest.main()
