"""[6.1] to [6.4] and the module mostkept.rules.covers."""

import itertools
import unittest

from mostkept.errors import InvalidRules
from mostkept.rules.closures import follows, is_rule_paper, triggers
from mostkept.rules.covers import alike_paper, are_alike, is_alike_paper, is_key, is_lean_cover, key_columns, keys
from mostkept.rules.covers import lean_cover
from mostkept.rules.rules import Rules
from tests.helper import KNOWN, NAMES, NO_COLUMNS, NO_PLACES, NO_RULES, PLACES, TALKS, Case, values
from tests.search import all_rules, all_sets, led, small_rules, some_rules

EXAMPLES = """
>>> SOME = Rules(("a", "b", "c"), (("a",), ("b", "c")), (("a", "c"), ("b",)), (("b",), ("c",)))
>>> lean_cover(SOME) == Rules(("a", "b", "c"), (("a",), ("b",)), (("b",), ("c",)))
True
>>> [list(keys(TALKS)), key_columns(PLACES), are_alike(TALKS, TALKS), alike_paper(SOME, Rules(("a", "b", "c")))[0]]
[[('talk',), ('hour', 'room')], ('item', 'team'), True, 'unlike']
"""
EIGHT = tuple("abcdefgh")
ABC = ("a", "b", "c")
RULES = [TALKS, PLACES, NO_RULES, NO_COLUMNS, NO_PLACES]
FEW = [rules for rules in small_rules() if len(rules.columns) == 3][::3] + some_rules(ABC, 3, 40, 1)
RING = Rules(ABC, (("a",), ("b",)), (("b",), ("c",)), (("c",), ("a",)))
BACK = Rules(ABC, (("a",), ("c",)), (("b",), ("a",)), (("c",), ("b",)))


def closures(rules):
    return [led(rules, some) for some in all_sets(rules.columns)]


def shortened(rules):
    """Return all rules with one column less on one side of one rule."""
    for rule, side in itertools.product(rules.rules, (0, 1)):
        for name in rule[side]:
            sides = list(rule)
            sides[side] = tuple(one for one in rule[side] if one != name)
            rest = [one for one in rules.rules if one != rule]
            yield Rules(rules.columns, *rest, *([tuple(sides)] if sides[1] else []))


def is_lean(rules, cover):
    lefts = [left for left, _ in cover.rules]
    return (closures(rules) == closures(cover) and len(lefts) == len(set(lefts))
            and not any(set(left) & set(right) for left, right in cover.rules)
            and not any(closures(one) == closures(rules) for one in shortened(cover)))


class AlikeTest(Case):

    def test_examples(self):
        self.examples(EXAMPLES, {**globals(), **KNOWN})

    def test_are_alike(self):
        for one, two in itertools.product(FEW[::4], repeat=2):
            alike = closures(one) == closures(two)
            self.assertIs(are_alike(one, two), alike)
            if alike:
                self.assertEqual(triggers(one), triggers(two))
            paper = alike_paper(one, two)
            self.assertEqual(paper[0], "alike" if alike else "unlike")
            self.assertIs(is_alike_paper(one, two, paper), True)
        for rules in FEW:
            plain = Rules(ABC, *rules.plain)
            self.assertIs(are_alike(rules, plain), True)
            self.assertIs(is_alike_paper(rules, plain, alike_paper(rules, plain)), True)
        self.assertIs(are_alike(NO_COLUMNS, Rules(())), True)
        self.assertEqual(alike_paper(NO_COLUMNS, NO_COLUMNS), ("alike", (), ()))

    def test_one_of_the_two_leads_to_more(self):
        less, more = Rules(ABC, (("a",), ("b",))), Rules(ABC, (("a",), ("b",)), (("b",), ("c",)))
        for one, two in ((less, more), (more, less)):
            self.assertIs(are_alike(one, two), False)
            self.assertIs(is_alike_paper(one, two, alike_paper(one, two)), True)
            self.assertIs(is_alike_paper(one, two, ("unlike", (0, 1, 2), (5, 1, 3))), True)

    def test_alike_papers(self):
        ab, bc, ca = [rule for rule in RING.rules]
        ac, ba, cb = [rule for rule in BACK.rules]
        papers = (("derived", (ab, bc)), ("derived", (bc, ca)), ("derived", (ca, ab)))
        others = (("derived", (ac, cb)), ("derived", (ba, ac)), ("derived", (cb, ba)))

        def right(*paper):
            return is_alike_paper(RING, BACK, paper)
        self.assertIs(right("alike", papers, others), True)
        self.assertIs(right("alike", (("derived", (ab, bc, ca, ab)),) + papers[1:], others), True)
        for paper in (("alike", others, papers), ("alike", papers[::-1], others), ("alike", papers, others[::-1]),
                      ("alike", papers[:2], others), ("alike", papers, others[:2]), ("alike", papers + papers[2:], others),
                      ("alike", list(papers), others), ("alike", papers, list(others)), ("alike", papers),
                      ("alike", papers, others, ()), ("alike", papers[:2] + (None,), others), ("unlike", papers, others),
                      ("alike", papers[:2] + (list(papers[2]),), others), ("alike", papers, None), ("alike", None, others),
                      ("unlike", (0, 0, 0), (0, 0, 1)), ("alike", papers[:2] + (("derived", (ca,)),), others)):
            self.assertIs(right(*paper), False)
        self.assertIs(is_alike_paper(RING, BACK, ["alike", papers, others]), False)

    def test_apart_papers_do_not_count(self):
        one, two = Rules(ABC, (("a",), ("b",))), Rules(ABC, (("b",), ("a",)))
        apart = ("apart", (0, 0, 0), (1, 0, 0))
        self.assertIs(is_rule_paper(one, two.rules[0], apart), True)
        self.assertIs(is_alike_paper(one, two, ("alike", (apart,), (("apart", (0, 0, 0), (0, 1, 0)),))), False)
        self.assertIs(is_alike_paper(one, Rules(ABC), ("alike", (), (("apart", (0, 0, 0), (0, 1, 0)),))), False)

    def test_unlike_papers(self):
        for one, two in ((RING, Rules(ABC, *RING.rules[:2])), (Rules(ABC, *RING.rules[:2]), RING)):
            for agreed in all_sets(ABC):
                rows = ((1, 1, 1), tuple(1 if name in agreed else 2 for name in ABC))
                expected = (led(one, agreed) == agreed) != (led(two, agreed) == agreed)
                self.assertIs(is_alike_paper(one, two, ("unlike", *rows)), expected)
                self.assertIs(is_alike_paper(one, two, ("alike", *rows)), False)
        for rows in (((1, 1, 1), (2, 2, True)), ((1, 1, True), (2, 2, 1)), ([1, 1, 1], (2, 2, 1)), (None, (2, 2, 1)),
                     ((1, 1, 1), [2, 2, 1]), ((1, 1, 1), (2, 2)), ((1, 1, 1),),
                     ((1, 1, 1), (2, 2, 1), (2, 2, 1)), ((1, 1, 1), None), ()):
            self.assertIs(is_alike_paper(RING, Rules(ABC, *RING.rules[:2]), ("unlike", *rows)), False)
        self.assertIs(is_alike_paper(RING, Rules(ABC, *RING.rules[:2]), ("unlike", (1, 1, 1), (2, 2, 1))), True)

    def test_values_that_are_papers(self):
        self.accepts(lambda value: is_alike_paper(NO_RULES, Rules(NAMES), value), [("alike", (), ())])
        for one, two in ((TALKS, NO_RULES), (NO_RULES, TALKS), (Rules(NAMES, (("room",), ("talk",))), NO_RULES)):
            self.accepts(lambda value: is_alike_paper(one, two, value), [("unlike", (0, 0, 0), (0, 0, 1))])
        self.accepts(lambda value: is_alike_paper(TALKS, Rules(NAMES, (("hour",), ("talk",))), value), [])

    def test_wrong_arguments(self):
        for call in (are_alike, alike_paper, lambda first, second: is_alike_paper(first, second, None)):
            for value in values():
                if not isinstance(value, Rules):
                    self.raises(InvalidRules, lambda: call(value, TALKS))
            self.refuses(InvalidRules, lambda value: call(TALKS, value), [TALKS, NO_RULES])
            self.raises(InvalidRules, lambda: call(TALKS, TALKS.renamed(hour="when")))
            self.raises(InvalidRules, lambda: call(NO_COLUMNS, PLACES))


class LeanTest(Case):

    def test_lean_covers(self):
        for rules in FEW + some_rules(("a", "b", "c", "d"), 6, 40, 2):
            lean = lean_cover(rules)
            self.assertTrue(is_lean(rules, lean))
            self.assertIs(is_lean_cover(rules, lean), True)
        for rules in some_rules(EIGHT, 16, 6, 3):
            lean = lean_cover(rules)
            self.assertTrue(all(follows(lean, rule) for rule in rules.rules))
            self.assertTrue(all(follows(rules, rule) for rule in lean.rules))
            self.assertIs(is_lean_cover(rules, lean), True)
        for rules in (NO_COLUMNS, NO_RULES):
            self.assertEqual(lean_cover(rules), rules)
        self.assertEqual(lean_cover(Rules(ABC, ((), ("a",)), (("a",), ("b",)), (ABC, ABC))).rules[0][0], ())

    def test_covers_by_search(self):
        columns = ("a", "b")
        candidates = [Rules(columns, *some) for many in range(3)
                      for some in itertools.combinations(all_rules(columns), many)]
        for rules in candidates[::4]:
            found = [cover for cover in candidates if is_lean_cover(rules, cover)]
            self.assertEqual(found, [cover for cover in candidates if is_lean(rules, cover)])
            self.assertGreater(len(found), 0)

    def test_covers_of_three_columns_by_search(self):
        for rules in FEW[::12]:
            for cover in FEW:
                self.assertIs(is_lean_cover(rules, cover), is_lean(rules, cover))

    def test_what_a_lean_cover_is_not(self):
        self.assertIs(is_lean_cover(RING, BACK), True)
        self.assertIs(is_lean_cover(RING, RING.rules), False)
        # One left side twice.
        self.assertIs(is_lean_cover(RING, Rules(ABC, (("a",), ("b",)), (("a",), ("c",)), (("b",), ("a",)), (("c",), ("a",)))),
                      False)
        self.assertIs(is_lean_cover(RING, Rules(ABC, (("a",), ("b", "c")), (("b",), ("a",)), (("c",), ("a",)))), True)
        # A column on both sides.
        self.assertIs(is_lean_cover(NO_RULES.renamed(hour="a", room="b", talk="c"), Rules(ABC, (("a",), ("a",)))), False)
        # Columns that can be left out.
        self.assertIs(is_lean_cover(RING, Rules(ABC, (("a",), ("b",)), (("a", "b"), ("c",)), (("c",), ("a",)))), False)
        self.assertIs(is_lean_cover(RING, RING.with_rule(("b",), ("a",))), False)
        self.assertIs(is_lean_cover(RING, RING.without_rule(("c",), ("a",))), False)
        # Other columns.
        self.assertIs(is_lean_cover(RING, RING.renamed(a="d")), False)
        self.assertIs(is_lean_cover(NO_RULES, NO_COLUMNS), False)

    def test_values_that_are_covers(self):
        self.accepts(lambda value: is_lean_cover(TALKS, value), [TALKS])
        self.accepts(lambda value: is_lean_cover(Rules(PLACES.columns, *PLACES.rules), value), [PLACES])
        self.accepts(lambda value: is_lean_cover(Rules(NAMES), value), [NO_RULES])

    def test_many_left_sides(self):
        # A cover has at most sixteen rules, whatever is left out where.
        names = ("a", "b", "c", "d", "e")
        rules = Rules(EIGHT, *[(left, ("f", "g", "h")) for left in all_sets(names) if len(left) == 2],
                      *[(left, ("f", "g")) for left in all_sets(names) if len(left) == 3][:6])
        self.assertEqual(len(rules), 16)
        self.assertEqual(len(lean_cover(rules)), 10)

    def test_wrong_arguments(self):
        self.refuses(InvalidRules, lean_cover, RULES)
        self.refuses(InvalidRules, lambda value: is_lean_cover(value, TALKS), RULES)


class KeysTest(Case):

    def test_keys(self):
        for rules in small_rules() + some_rules(tuple("abcde"), 6, 20, 1):
            wide = [some for some in all_sets(rules.columns) if led(rules, some) == rules.columns]
            expected = [some for some in wide if not any(set(other) < set(some) for other in wide)]
            self.assertEqual(list(keys(rules)), expected)
            self.assertEqual(key_columns(rules), tuple(sorted({name for key in expected for name in key})))
            for some in all_sets(rules.columns):
                self.assertIs(is_key(rules, some), some in expected)

    def test_few_and_many_columns(self):
        self.assertEqual([list(keys(NO_COLUMNS)), key_columns(NO_COLUMNS)], [[()], ()])
        self.assertEqual([list(keys(Rules(EIGHT))), key_columns(Rules(EIGHT))], [[EIGHT], EIGHT])
        self.assertEqual([list(keys(Rules(EIGHT, ((), EIGHT)))), key_columns(Rules(EIGHT, ((), EIGHT)))], [[()], ()])
        ring = Rules(EIGHT, *[((name,), (other,)) for name, other in zip(EIGHT, EIGHT[1:] + EIGHT[:1])])
        self.assertEqual(list(keys(ring)), [(name,) for name in EIGHT])

    def test_values_that_are_keys(self):
        self.accepts(lambda value: is_key(TALKS, value), [("talk",)])
        self.accepts(lambda value: is_key(NO_RULES, value), [NAMES])
        self.accepts(lambda value: is_key(NO_COLUMNS, value), [()])
        self.assertIs(is_key(TALKS, ("hour", "room")), True)
        self.assertIs(is_key(TALKS, ("room", "hour")), False)
        self.assertIs(is_key(TALKS, ("hour", "talk")), False)

    def test_wrong_arguments(self):
        self.refuses(InvalidRules, lambda value: next(keys(value)), RULES)
        self.refuses(InvalidRules, key_columns, RULES)
        self.refuses(InvalidRules, lambda value: is_key(value, ()), RULES)
        found = keys(None)
        self.raises(InvalidRules, lambda: next(found))


if __name__ == "__main__":
    unittest.main()
