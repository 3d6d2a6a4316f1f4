"""[9.1] to [9.3] and the module mostkept.orders.witnesses, with [0.14] and [0.16]."""

import itertools
import unittest

from mostkept.errors import InvalidOperation, InvalidRules, TooMany, UnknownName
from mostkept.orders import witnesses as module
from mostkept.orders.chains import behind, chain, rest, steps
from mostkept.orders.witnesses import is_order_paper, is_witness, order_paper, shared_columns, small_conflict
from mostkept.orders.witnesses import small_rules as rules_of
from mostkept.orders.witnesses import witness, witnesses
from mostkept.rules.closures import is_closed
from mostkept.rules.rules import Rules
from tests.helper import KNOWN, NO_COLUMNS, NO_PLACES, NO_RULES, PLACES, TALKS, Case, exactly, values
from tests.search import MAKINGS, all_witnesses, small_rules, some_rules, struck_by, translates

EXAMPLES = """
>>> [order_paper(TALKS), witness(TALKS), order_paper(PLACES)[0], small_conflict("turn", "c"), small_conflict("turn", "b")]
[('chain', (('pair', ('hour', 'room'), ('talk',)),)), None, 'witness', True, False]
>>> [is_witness(PLACES, ("witness", one, {"item": "a", "place": "c", "team": "b"})) for one in ("labels", "row")]
[True, False]
"""
RULES = [TALKS, PLACES, NO_RULES, NO_COLUMNS, NO_PLACES]
PROBLEMS = ("labels", "row", "turn", "triangles")
MADE = {"item": "a", "place": "c", "team": "b"}
LABELS = ("witness", "labels", MADE)
PAIR = ("pair", ("hour", "room"), ("talk",))
OTHER_LETTERS = ["ab", "ac", "bc", "abc", "c", "ba", "aa", "d", "abcd", "A", " a"]
THREE = [rules for rules in small_rules() if len(rules.columns) < 3] + \
    [rules for rules in small_rules() if len(rules.columns) == 3][::4]
ABCD = ("a", "b", "c", "d")


class SmallTest(Case):

    def test_examples(self):
        self.examples(EXAMPLES, {**globals(), **KNOWN})

    def test_problems(self):
        self.assertEqual(module.PROBLEMS, PROBLEMS)
        columns = ("a", "b", "c")
        self.assertEqual([rules_of(problem) for problem in PROBLEMS], [
            Rules(columns, (("a",), ("c",)), (("b",), ("c",))), Rules(columns, (("a",), ("b",)), (("b",), ("c",))),
            Rules(columns, (("a", "b"), ("c",)), (("c",), ("b",))),
            Rules(columns, (("a", "b"), ("c",)), (("a", "c"), ("b",)), (("b", "c"), ("a",)))])

    def test_conflicts_of_the_problems(self):
        told = {"labels": ["a", "b", "ab"], "row": ["a", "b", "ab", "ac"], "turn": ["c", "ab", "ac"],
                "triangles": ["ab", "ac", "bc"]}
        for problem, letters in itertools.product(PROBLEMS, MAKINGS):
            if letters != "abc":
                self.assertIs(small_conflict(problem, letters), letters in told[problem])

    def test_shared_columns(self):
        makings = {"z": "ab", "hour": "", "item": "c", "b": "abc", "a": "a"}
        for letters in MAKINGS:
            expected = sorted(name for name in makings if set(makings[name]) <= set(letters))
            self.assertEqual(shared_columns(makings, letters), tuple(expected))
        self.assertEqual([shared_columns({}, "ab"), shared_columns({}, "abc"), shared_columns(makings, "abc")],
                         [(), (), ("a", "b", "hour", "item", "z")])

    def test_wrong_problems(self):
        for value in [*values(), "Labels", "label", ("labels",), ["row"]]:
            self.raises(UnknownName, lambda: rules_of(value), name=value)
            self.raises(UnknownName, lambda: small_conflict(value, None), name=value)

    def test_wrong_letters(self):
        right = ["", "a", "b"]
        for problem in PROBLEMS:
            self.refuses(InvalidOperation, lambda value: small_conflict(problem, value), right + ["ab", "ac", "bc", "c"],
                         more=OTHER_LETTERS)
        self.refuses(InvalidOperation, lambda value: shared_columns({"a": "b"}, value),
                     right + ["ab", "ac", "bc", "c", "abc"], more=OTHER_LETTERS)
        self.refuses(InvalidOperation, lambda value: shared_columns({"a": "b", "b": value}, ""),
                     right + ["ab", "ac", "bc", "c", "abc"], more=OTHER_LETTERS)
        self.refuses(InvalidOperation, lambda value: shared_columns(value, "ab"), [{}])
        for wrong in ({"A": "a"}, {1: "a"}, {("a",): "a"}, {"": "a"}, {"abcdefghi": "a"}, {"a": "a", None: "b"}):
            self.raises(InvalidOperation, lambda: shared_columns(wrong, "ab"))


class WitnessTest(Case):

    def test_a_chain_or_a_witness(self):
        for rules in small_rules() + some_rules(ABCD, 5, 200, 1) + some_rules(tuple("abcdefgh"), 6, 60, 2):
            found = witness(rules)
            self.assertEqual(found is None, chain(rules) is not None)
            paper = order_paper(rules)
            self.assertIs(is_order_paper(rules, paper), True)
            if found is not None:
                self.assertEqual(list(found[2]), list(rules.columns))
                self.assertTrue(translates(rules, found[1], tuple(found[2].values())))
                self.assertIs(is_witness(rules, found), True)
                self.assertEqual("".join(sorted(set("".join(found[2].values())))), "abc")
                self.assertEqual(paper[0], "witness")
            else:
                self.assertEqual(paper, ("chain", chain(rules)))

    def test_all_problems_are_found(self):
        found = [witness(rules) for rules in some_rules(ABCD, 5, 200, 1)]
        self.assertEqual({one[1] for one in found if one is not None}, set(PROBLEMS))
        for problem in PROBLEMS:
            self.assertEqual(witness(rules_of(problem))[1], problem)
            self.assertIs(is_witness(rules_of(problem), ("witness", problem, {"a": "a", "b": "b", "c": "c"})), True)

    def test_all_witnesses_by_search(self):
        for rules in THREE + some_rules(("a", "b", "c"), 4, 40, 3):
            expected = all_witnesses(rules)
            self.assertEqual(list(witnesses(rules)), expected)
            self.assertEqual(len(expected) > 0, chain(rules) is None)
            for problem in PROBLEMS:
                some = [one for one in expected if one[1] == problem]
                self.assertEqual(list(witnesses(rules, problem=problem)), some)
            self.assertTrue(all(is_witness(rules, one) for one in expected))
            self.assertTrue(all(set("".join(one[2].values())) == set("abc") for one in expected))

    def test_four_columns(self):
        found = [rules for rules in some_rules(ABCD, 5, 60, 4) if chain(rules) is None][:5]
        for rules in found:
            self.assertEqual(list(witnesses(rules)), all_witnesses(rules))
        self.assertEqual(list(witnesses(Rules(ABCD))), [])

    def test_all_makings_of_three_columns(self):
        for rules in [rules for rules in small_rules() if len(rules.columns) == 3][::40]:
            for problem, makings in itertools.product(PROBLEMS, itertools.product(MAKINGS, repeat=3)):
                value = ("witness", problem, dict(zip(rules.columns, makings)))
                self.assertIs(is_witness(rules, value), translates(rules, problem, makings))

    def test_behind_steps(self):
        wide = Rules(ABCD, (("a", "d"), ("c",)), (("b", "d"), ("c",)))
        self.assertEqual(steps(wide), (("common", "d"),))
        cases = [wide] + [rules for rules in some_rules(ABCD, 4, 150, 5) if steps(rules) and chain(rules) is None][:6]
        self.assertGreater(len(cases), 3)
        for rules in cases:
            for step in steps(rules):
                there = [(word, problem, {name: "" if name in struck_by(step) else makings[name] for name in rules.columns})
                         for word, problem, makings in
                         [(*one[:2], {**dict.fromkeys(rules.columns, ""), **one[2]}) for one in witnesses(behind(rules, step))]]
                self.assertEqual(list(witnesses(rules)), there)

    def test_the_forms(self):
        # The triggers of the rest are of one of the forms of [9.3], and what is shared is closed as it says.
        for rules in some_rules(ABCD, 5, 100, 6):
            found = witness(rules)
            if found is not None and rest(rules) == rules:
                for letters in ("", "a", "b", "c", "ab", "ac", "bc"):
                    self.assertEqual(is_closed(rules, shared_columns(found[2], letters)),
                                     not small_conflict(found[1], letters))

    def test_values_that_are_witnesses(self):
        self.accepts(lambda value: is_witness(PLACES, value), [LABELS], [LABELS])
        self.assertIs(is_witness(PLACES, ("witness", "labels", {"team": "a", "place": "c", "item": "b"})), True)
        self.assertIs(is_witness(PLACES, ("witness", "labels", dict(reversed(MADE.items())))), True)
        for wrong in (["witness", "labels", MADE], ("Witness", "labels", MADE), ("witness", "Labels", MADE),
                      ("witness", ["labels"], MADE), ("witness", "labels"), ("witness", "labels", MADE, ()),
                      ("witness", "labels", {"item": "a", "place": "c"}), ("witness", "labels", {**MADE, "zoo": "abc"}),
                      ("witness", "labels", {**MADE, "place": "d"}), ("witness", "labels", {**MADE, "place": "cc"}),
                      ("witness", "labels", {**MADE, "place": None}), ("witness", "labels", {**MADE, "place": ("c",)}),
                      ("witness", "labels", {**MADE, 1: "c"}), ("witness", "labels", tuple(MADE.items())), LABELS[1:],
                      ("witness", "labels", {"item": "a", "place": "c", "Team": "b"}), ("witness", "labels", None),
                      ("witness", None, MADE), ("witness", "labels", {**MADE, "team": "a"}), ("chain", LABELS)):
            self.assertIs(is_witness(PLACES, wrong), False)
        self.accepts(lambda value: is_witness(TALKS, value), [])
        self.accepts(lambda value: is_witness(NO_COLUMNS, value), [])

    def test_exactly_the_columns_of_the_rules(self):
        free = Rules(PLACES.columns + ("zone",), *PLACES.rules)
        self.assertIs(is_witness(free, ("witness", "labels", {**MADE, "zone": "abc"})), True)
        for wrong in (MADE, {**MADE, "zoo": "abc"}, {**MADE, "zone": "abc", "zoo": "abc"}, {**MADE, 1: "abc"}, {**MADE, (): "abc"}):
            self.assertIs(is_witness(free, ("witness", "labels", wrong)), False)

    def test_values_that_are_order_papers(self):
        paper = ("chain", (PAIR,))
        self.accepts(lambda value: is_order_paper(TALKS, value), [paper], [paper])
        self.accepts(lambda value: is_order_paper(PLACES, value), [LABELS], [LABELS, ("chain", ())])
        self.accepts(lambda value: is_order_paper(NO_RULES, value), [("chain", ())], [("chain", ())])
        for wrong in (["chain", (PAIR,)], ("chain", [PAIR]), ("chain", PAIR), ("chain", (PAIR,), ()), ("chain",), (PAIR,),
                      ("Chain", (PAIR,)), ("witness", (PAIR,)), ("chain", (PAIR, PAIR)), ("chain", ()), ("chain", None)):
            self.assertIs(is_order_paper(TALKS, wrong), False)

    def test_wrong_arguments(self):
        for call in (witness, order_paper, lambda value: is_witness(value, None), lambda value: is_order_paper(value, None),
                     lambda value: is_order_paper(value, ("chain", ())), lambda value: is_witness(value, LABELS),
                     lambda value: next(witnesses(value)), lambda value: next(witnesses(value, problem="gone"))):
            for value in values():
                if not isinstance(value, Rules):
                    self.raises(InvalidRules, lambda: call(value))
        for rules in RULES:
            witness(rules), order_paper(rules), list(witnesses(rules))
        for value in [*values(), "Labels", ["row"], ("row",)]:
            if value is not None:
                self.raises(UnknownName, lambda: next(witnesses(PLACES, problem=value)), name=value)
                self.raises(UnknownName, lambda: next(witnesses(Rules(tuple("abcde")), problem=value)), name=value)
        self.assertFalse(exactly("labels", values()))

    def test_at_most_four_columns(self):
        for problem in (None, "labels"):
            found = witnesses(Rules(tuple("abcde")), problem=problem)
            self.raises(TooMany, lambda: next(found), limit=4)
        found = witnesses(None)
        self.raises(InvalidRules, lambda: next(found))

    def test_results_give_no_access(self):
        found = witness(PLACES)
        found[2].clear()
        self.assertIs(is_witness(PLACES, witness(PLACES)), True)
        told = []
        for one in witnesses(PLACES):
            told.append((one[1], tuple(one[2].items())))
            one[2].clear()
        self.assertEqual(told, [(one[1], tuple(one[2].items())) for one in all_witnesses(PLACES)])


if __name__ == "__main__":
    unittest.main()
