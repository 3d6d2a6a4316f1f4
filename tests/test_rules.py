"""[4.1] and the module mostkept.rules.rules, with [0.11]."""

import copy
import itertools
import unittest

from mostkept.errors import InvalidColumns, InvalidOperation, InvalidRules, TooMany, UnknownName
from mostkept.rules import rules as module
from mostkept.rules.rules import Rules
from tests.helper import KNOWN, NAMES, NO_RULES, PLACES, TALKS, Case, exactly, values
from tests.search import all_sets, holds, small_rules, some_rules

EXAMPLES = """
>>> some = Rules(("a", "b", "c"), (("a",), ("b", "c")), (("a",), ("a", "b")), (("b", "c"), ("c",)))
>>> [some.plain, len(some), (("a",), ("b",)) in some, some.struck("a").rules, str(some.struck("a"))]
[((('a',), ('b', 'c')),), 3, False, (((), ('b',)), ((), ('b', 'c')), (('b', 'c'), ('c',))), '3 rules over 2 columns']
"""
EIGHT = tuple("abcdefgh")
ABC = ("a", "b", "c")
# Of the values of the helper those that are columns, and those that are rules over hour, room, talk.
COLUMNS = [(), ("a",), ("b",), ("hour",), ("talk",), ("a", "b"), ("hour", "talk"), NAMES, EIGHT]
RULES = [((), ("hour",)), ((), NAMES), (("hour",), ("hour",)), (("hour",), ("room",)),
         (("hour", "room"), ("talk",)), (("talk",), ("hour", "room"))]
SIDES = [("hour",), ("talk",), ("hour", "talk"), NAMES]
SIXTEEN = tuple([(left, ("e",)) for left in all_sets(("a", "b", "c", "d"))])
MANY = ("a", "b", "c", "d", "e")


class RulesCase(Case):

    def has(self, rules, columns, given):
        self.assertIs(rules.__class__, Rules)
        self.assertEqual((rules.columns, rules.rules, len(rules)), (columns, tuple(sorted(given)), len(given)))


class RulesTest(RulesCase):

    def test_examples(self):
        self.examples(EXAMPLES, KNOWN)

    def test_constants(self):
        self.assertEqual((module.MAX_COLUMNS, module.MAX_RULES), (8, 16))

    def test_any_order_and_twice(self):
        given = ((("b",), ("a",)), (("a",), ("b", "c")), ((), ("c",)))
        for order in itertools.permutations(given):
            self.has(Rules(ABC, *order), ABC, given)
            self.has(Rules.of(ABC, order + order), ABC, given)
            self.assertEqual(Rules(ABC, *order), Rules.of(ABC, given))

    def test_plain_rules(self):
        self.assertEqual(Rules(ABC).plain, ())
        self.assertEqual(Rules(ABC, (("a",), ("a",)), (("a", "b"), ("b",)), (ABC, ABC)).plain, ())
        self.assertEqual(Rules(ABC, ((), ABC), (("a",), ABC)).plain, (((), ABC), (("a",), ("b", "c"))))
        self.assertEqual(Rules(ABC, (("b",), ("a",)), (("b",), ("c",)), (("b",), ("b", "c")), (("a",), ("a",))).plain,
                         ((("b",), ("a", "c")),))
        for rules in small_rules():
            lefts = [left for left, _ in rules.plain]
            self.assertEqual(lefts, sorted(set(lefts)))
            for left in all_sets(rules.columns):
                right = sorted({name for one, names in rules.rules if one == left for name in names} - set(left))
                self.assertEqual(dict(rules.plain).get(left, ()), tuple(right))
            plain = Rules(rules.columns, *rules.plain)
            for some in all_sets(rules.columns):
                self.assertEqual(holds(plain, some), holds(rules, some))

    def test_sixteen_different_rules(self):
        self.has(Rules(MANY, *SIXTEEN), MANY, SIXTEEN)
        self.has(Rules(MANY, *SIXTEEN, *SIXTEEN[3:7], SIXTEEN[0]), MANY, SIXTEEN)
        more = (("e",), ("a",))
        self.raises(TooMany, lambda: Rules(MANY, *SIXTEEN, more), limit=16)
        self.raises(TooMany, lambda: Rules.of(MANY, (more,) + SIXTEEN), limit=16)
        self.raises(TooMany, lambda: Rules(MANY, *SIXTEEN).with_rule(*more), limit=16)
        self.raises(TooMany, lambda: Rules(MANY, *SIXTEEN) | Rules(MANY, more), limit=16)
        self.raises(InvalidRules, lambda: Rules(MANY, *SIXTEEN, more, (("a",), ())))
        full = Rules(MANY, *SIXTEEN)
        self.assertEqual([full.with_rule(*SIXTEEN[5]), full | full, full | Rules(MANY, SIXTEEN[2])], [full] * 3)

    def test_no_columns_and_eight(self):
        self.has(Rules(()), (), ())
        self.assertEqual((Rules(()).plain, str(Rules(())), bool(Rules(()))), ((), "0 rules over 0 columns", False))
        self.raises(InvalidRules, lambda: Rules((), ((), ())))
        self.has(Rules(EIGHT, ((), EIGHT), (EIGHT, ("h",))), EIGHT, (((), EIGHT), (EIGHT, ("h",))))
        self.raises(InvalidColumns, lambda: Rules(EIGHT + ("i",)))

    def test_wrong_arguments(self):
        self.refuses(InvalidColumns, Rules, COLUMNS)
        self.refuses(InvalidColumns, lambda value: Rules.of(value, ()), COLUMNS)
        self.refuses(InvalidRules, lambda value: Rules(NAMES, value), RULES)
        self.refuses(InvalidRules, lambda value: Rules(NAMES, ((), NAMES), value), RULES)
        self.refuses(InvalidRules, lambda value: Rules.of(NAMES, (value,)), RULES)
        self.refuses(InvalidRules, lambda value: Rules.of(NAMES, value), [(), ((("hour",), ("room",)),)])
        for make in (Rules.of, Rules.keyed_by):
            self.raises(InvalidColumns, lambda: make(["a"], None))
        self.raises(InvalidColumns, lambda: Rules(("b", "a"), None))


class KeyedTest(RulesCase):

    def test_keyed(self):
        self.has(Rules.keyed(NAMES, ("talk",), ("hour", "room")), NAMES, TALKS.rules)
        self.has(Rules.keyed_by(NAMES, (("talk",), ("talk",), ())), NAMES, ((("talk",), ("hour", "room")), ((), NAMES)))
        self.has(Rules.keyed(NAMES, NAMES), NAMES, ())
        self.has(Rules.keyed((), ()), (), ())
        self.has(Rules.keyed(NAMES), NAMES, ())
        self.has(Rules.keyed_by(NAMES, ()), NAMES, ())

    def test_many_keys(self):
        columns = MANY
        keys = tuple(all_sets(("a", "b", "c", "d")))
        self.assertEqual(len(Rules.keyed(columns, *keys, *keys, columns)), 16)
        self.raises(TooMany, lambda: Rules.keyed(columns, *keys, ("e",)), limit=16)
        self.raises(TooMany, lambda: Rules.keyed_by(columns, keys + (("e",),)), limit=16)
        self.raises(InvalidColumns, lambda: Rules.keyed_by(columns, keys + (("e",), ["a"])))

    def test_wrong_arguments(self):
        right = [(), *SIDES]
        self.refuses(InvalidColumns, Rules.keyed, COLUMNS)
        self.refuses(InvalidColumns, lambda value: Rules.keyed_by(value, ()), COLUMNS)
        for value in values():
            if not exactly(value, COLUMNS):
                self.raises(InvalidColumns, lambda: Rules.keyed(value, ("a",)))
        self.refuses(InvalidColumns, lambda value: Rules.keyed(NAMES, value), right)
        self.refuses(InvalidColumns, lambda value: Rules.keyed(NAMES, ("talk",), value), right)
        self.refuses(InvalidColumns, lambda value: Rules.keyed_by(NAMES, (value,)), right)
        self.refuses(InvalidColumns, lambda value: Rules.keyed_by(NAMES, value),
                     [(), ((), ())] + [one for one in RULES if one != ()] +
                     [(("hour",), ()), (("hour",), ("room",), ("talk",))])


class ChangedTest(RulesCase):

    def test_with_and_without(self):
        rules = Rules(ABC, (("b",), ("a",)))
        self.has(rules.with_rule(("a",), ("b",)), ABC, ((("a",), ("b",)), (("b",), ("a",))))
        self.has(rules.with_rule(("b",), ("a",)), ABC, ((("b",), ("a",)),))
        self.has(rules.with_rule((), ("a",)).without_rule(("b",), ("a",)), ABC, (((), ("a",)),))
        self.has(rules.without_rule(("b",), ("a",)), ABC, ())
        self.has(rules, ABC, ((("b",), ("a",)),))
        self.raises(InvalidRules, lambda: rules.without_rule(("a",), ("b",)))
        self.raises(InvalidRules, lambda: rules.without_rule(("b",), ("a", "b")))
        self.refuses(InvalidRules, lambda value: Rules(NAMES).with_rule(value, ("hour",)), [(), *SIDES])
        self.refuses(InvalidRules, lambda value: Rules(NAMES).with_rule((), value), SIDES)
        self.refuses(InvalidRules, lambda value: TALKS.without_rule(value, ("talk",)), [])
        self.refuses(InvalidRules, lambda value: TALKS.without_rule(("talk",), value), [])
        self.refuses(InvalidRules, lambda value: TALKS.without_rule(("hour", "room"), value), [("talk",)])

    def test_struck(self):
        self.has(TALKS.struck(), NAMES, TALKS.rules)
        self.has(TALKS.struck("room"), ("hour", "talk"), ((("hour",), ("talk",)), (("talk",), ("hour",))))
        self.has(TALKS.struck("hour", "room", "hour"), ("talk",), (((), ("talk",)),))
        self.has(TALKS.struck_all(("talk", "hour")), ("room",), (((), ("room",)),))
        self.has(TALKS.struck(*NAMES), (), ())
        self.has(PLACES.struck("place"), ("item", "team"), ())

    def test_struck_at_once_and_one_after_another(self):
        for rules in small_rules() + some_rules(MANY, 6, 20, 1):
            for some in all_sets(rules.columns):
                at_once = rules.struck(*some)
                self.assertEqual(rules.struck_all(tuple(reversed(some)) * 2), at_once)
                one_by_one = rules
                for name in some:
                    one_by_one = one_by_one.struck(name)
                self.assertEqual(one_by_one, at_once)
                self.assertEqual(at_once.columns, tuple(name for name in rules.columns if name not in some))
                for left, right in rules.rules:
                    less = tuple(sorted(set(left) - set(some))), tuple(sorted(set(right) - set(some)))
                    self.assertEqual(less in at_once, less[1] != ())

    def test_wrong_columns_to_strike(self):
        for value in values():
            if not exactly(value, NAMES):
                self.raises(UnknownName, lambda: TALKS.struck("hour", value, "gone"), name=value)
                self.raises(UnknownName, lambda: TALKS.struck_all((value,)), name=value)
            if not isinstance(value, tuple):
                self.raises(InvalidColumns, lambda: TALKS.struck_all(value))
            elif not exactly(value, [(), *SIDES, ("talk", "hour")]):
                wrong = next(one for one in value if not exactly(one, NAMES))
                self.raises(UnknownName, lambda: TALKS.struck_all(value), name=wrong)
        self.raises(UnknownName, lambda: TALKS.struck("talk").struck("talk"), name="talk")

    def test_renamed(self):
        self.has(TALKS.renamed(), NAMES, TALKS.rules)
        self.has(TALKS.renamed(hour="when"), ("room", "talk", "when"),
                 ((("room", "when"), ("talk",)), (("talk",), ("room", "when"))))
        self.has(TALKS.renamed(hour="talk", talk="hour"), NAMES,
                 ((("room", "talk"), ("hour",)), (("hour",), ("room", "talk"))))
        self.has(TALKS.renamed_by({"talk": "hour", "hour": "room", "room": "talk"}), NAMES,
                 ((("room", "talk"), ("hour",)), (("hour",), ("room", "talk"))))
        self.has(TALKS.renamed(hour="hour"), NAMES, TALKS.rules)
        self.has(Rules(("self",), ((), ("self",))).renamed_by({"self": "a"}), ("a",), (((), ("a",)),))
        self.assertEqual(TALKS.renamed(hour="x").renamed(x="hour"), TALKS)
        self.assertEqual(TALKS.renamed(hour="when").plain,
                         ((("room", "when"), ("talk",)), (("talk",), ("room", "when"))))

    def test_wrong_names(self):
        self.raises(InvalidColumns, lambda: TALKS.renamed(hour="room"))
        self.raises(InvalidColumns, lambda: TALKS.renamed(hour="x", room="x"))
        self.raises(UnknownName, lambda: TALKS.renamed(zoo="x", day="y", hour="room"), name="day")
        self.raises(UnknownName, lambda: TALKS.renamed_by({"day": 7}), name="day")
        self.raises(InvalidOperation, lambda: TALKS.renamed_by({"day": "x", 1: "y"}))
        self.refuses(InvalidColumns, lambda value: TALKS.renamed(hour=value), ["a", "b", "hour", "self", "eightabc"])
        for value in values():
            if not isinstance(value, dict) or not all(isinstance(key, str) for key in value):
                self.raises(InvalidOperation, lambda: TALKS.renamed_by(value))

    def test_both(self):
        one, two = Rules(ABC, (("a",), ("b",))), Rules(ABC, (("b",), ("c",)), (("a",), ("b",)))
        self.has(one | two, ABC, two.rules)
        self.has(two | one, ABC, two.rules)
        self.has(one | Rules(ABC), ABC, one.rules)
        self.refuses(InvalidOperation, lambda value: TALKS | value, [TALKS, NO_RULES])
        self.raises(InvalidOperation, lambda: one | Rules(("a", "b")))
        self.raises(InvalidOperation, lambda: one | Rules(ABC + ("d",)))

    def test_nothing_changes(self):
        rules = Rules(ABC, (("a",), ("b",)))
        before = copy.deepcopy(rules)
        rules.with_rule((), ("c",)), rules.struck("a"), rules.renamed(a="d"), rules | rules
        for call in (lambda: rules.with_rule((), ()), lambda: rules.struck("x"), lambda: rules.renamed(a="b")):
            with self.assertRaises((InvalidRules, UnknownName, InvalidColumns)):
                call()
        self.assertEqual((rules, rules.plain), (before, before.plain))
        names = {"a": "d"}
        rules.renamed_by(names)
        self.assertEqual(names, {"a": "d"})


class SignsTest(RulesCase):

    def test_in(self):
        self.accepts(lambda value: value in TALKS, [(("hour", "room"), ("talk",)), (("talk",), ("hour", "room"))])
        self.accepts(lambda value: value in Rules(NAMES), [])

    def test_len_and_truth(self):
        self.assertEqual([len(TALKS), bool(TALKS), len(Rules(ABC)), bool(Rules(ABC))], [2, True, 0, False])
        # A rule that is not plain counts.
        self.assertEqual(bool(Rules(ABC, (("a",), ("a",)))), True)

    def test_equal(self):
        self.assertTrue(TALKS == Rules(NAMES, *reversed(TALKS.rules)))
        self.assertFalse(TALKS != Rules(NAMES, *reversed(TALKS.rules)))
        self.assertFalse(TALKS == PLACES)
        self.assertFalse(Rules(ABC) == Rules(("a", "b")))
        # The same rules follow, but they are others.
        self.assertFalse(Rules(ABC, (("a",), ("b",))) == Rules(ABC, (("a",), ("a", "b"))))
        self.assertFalse(Rules(ABC) == Rules(ABC, (("a",), ("a",))))
        for value in values():
            if value is not TALKS:
                self.assertIs(TALKS == value, False)
                self.assertIs(TALKS != value, True)

    def test_str(self):
        self.assertEqual([str(TALKS), str(Rules(("a",), ((), ("a",))))],
                         ["2 rules over 3 columns", "1 rules over 1 columns"])


if __name__ == "__main__":
    unittest.main()
