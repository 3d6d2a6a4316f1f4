"""[10.1] to [10.4] and the module mostkept.keeps.matchings."""

import copy
import itertools
import random
import unittest

from mostkept.base.scales import Scale
from mostkept.errors import InvalidOperation, InvalidScale, TooMany
from mostkept.keeps import matchings as module
from mostkept.keeps.matchings import are_prices, greatest_matching, is_matching, is_matching_paper, matching_paper
from mostkept.keeps.matchings import matchings, sum_of_pairs
from tests.helper import FORTY, KNOWN, Case, exactly, values
from tests.search import SCALES, all_matchings, some_worths

EXAMPLES = """
>>> worths = {((1,), (1,)): 3, ((1,), (2,)): 5, ((2,), (2,)): 4}
>>> [greatest_matching(PLAN.scale, worths), [len(pairs) for pairs in matchings(PLAN.scale, worths, least=4)]]
[(((1,), (1,)), ((2,), (2,))), [2, 1, 1]]
>>> are_prices(PLAN.scale, worths, ({(1,): 3, (2,): 2}, {(1,): 0, (2,): 2}))
True
"""
SUMS, ODDS = Scale.sums(), Scale.odds()
A, B, C = ((1,), (1,)), ((1,), (2,)), ((2,), (2,))
WORTHS = {A: 3, B: 5, C: 4}
PRICES = ({(1,): 3, (2,): 2}, {(1,): 0, (2,): 2})
PAPER = ("matching", (A, C), *PRICES)


def cases():
    """Return scales with worths of all kinds of small numbers of keys."""
    chance = random.Random(5)
    found = []
    for scale in SCALES:
        found.append((scale, {}))
        for _ in range(60):
            lefts, rights = chance.randint(1, 4), chance.randint(1, 4)
            found.append((scale, some_worths(chance, scale, lefts, rights, chance.randint(0, 9))))
    return found


def total(scale, worths, pairs):
    return scale.plus(*[worths[pair] for pair in pairs])


def many_worths(many):
    return {((number,), (number % 7,)): number + 1 for number in range(many)}


class MatchingsTest(Case):

    def test_examples(self):
        self.examples(EXAMPLES, {**globals(), **KNOWN})

    def test_constants(self):
        self.assertEqual(module.MAX_PAIRS, 200)

    def test_greatest_matchings_and_papers(self):
        for scale, worths in cases():
            best = scale.greatest(*[total(scale, worths, some) for some in all_matchings(worths)])
            found = greatest_matching(scale, worths)
            self.assertIn(found, all_matchings(worths))
            self.assertEqual(total(scale, worths, found), best)
            paper = matching_paper(scale, worths)
            self.assertIs(is_matching_paper(scale, worths, paper), True)
            self.assertIn(paper[1], all_matchings(worths))
            self.assertEqual(total(scale, worths, paper[1]), best)
            word, _, prices, others = paper
            self.assertEqual((word, list(prices)), ("matching", sorted({left for left, _ in worths})))
            self.assertEqual(list(others), sorted({right for _, right in worths}))
            self.assertEqual(scale.plus(*prices.values(), *others.values()), best)
            for left, right in worths:
                self.assertFalse(scale.is_less(scale.plus(prices[left], others[right]), worths[left, right]))
            self.assertTrue(all(scale.sign(price) >= 0 for price in (*prices.values(), *others.values())))

    def test_matchings_in_their_order(self):
        for scale, worths in cases():
            expected = sorted(all_matchings(worths))
            order = scale.ranked(tuple(total(scale, worths, some) for some in expected))
            expected = [expected[at] for at in order]
            self.assertEqual(list(matchings(scale, worths)), expected)
            self.assertEqual(list(matchings(scale, worths, least=None)), expected)
            for least in (total(scale, worths, expected[len(expected) // 2]), total(scale, worths, expected[0]), scale.zero,
                          scale.negative(scale.one), scale.plus(total(scale, worths, expected[0]), scale.one)):
                self.assertEqual(list(matchings(scale, worths, least=least)),
                                 [some for some in expected if not scale.is_less(total(scale, worths, some), least)])

    def test_is_matching_by_search(self):
        for scale, worths in cases()[::7]:
            right = all_matchings(worths)
            for many in range(4):
                for some in itertools.permutations(worths, many):
                    self.assertIs(is_matching(scale, worths, some), some in right)

    def test_prices_by_search(self):
        for first, second, third, fourth in itertools.product(range(-1, 7), range(-1, 6), range(-1, 4), range(-1, 7)):
            right = min(first, second, third, fourth) >= 0 and first + third >= 3 and first + fourth >= 5 and second + fourth >= 4
            value = ({(1,): first, (2,): second}, {(1,): third, (2,): fourth})
            self.assertIs(are_prices(SUMS, WORTHS, value), right)
            paper = ("matching", (A, C), *value)
            self.assertIs(is_matching_paper(SUMS, WORTHS, paper), right and first + second + third + fourth == 7)

    def test_no_pairs(self):
        for scale in SCALES:
            self.assertEqual(matching_paper(scale, {}), ("matching", (), {}, {}))
            self.assertEqual([greatest_matching(scale, {}), list(matchings(scale, {})), sum_of_pairs(scale, {})],
                             [(), [()], scale.zero])
            self.assertIs(is_matching(scale, {}, ()), True)
            self.assertIs(are_prices(scale, {}, ({}, {})), True)
            self.assertIs(is_matching_paper(scale, {}, ("matching", (), {}, {})), True)
        self.assertEqual(list(matchings(SUMS, {}, least=1)), [])

    def test_keys_of_different_lengths(self):
        worths = {((), ()): 2, ((), (1, 2)): 3, ((5,), ()): 4, ((5, 6), (1, 2)): 4, ((5,), (9,)): 1}
        self.assertEqual(greatest_matching(SUMS, worths), (((5,), ()), ((5, 6), (1, 2))))
        self.assertIs(is_matching_paper(SUMS, worths, matching_paper(SUMS, worths)), True)

    def test_sums_of_pairs(self):
        self.assertEqual([sum_of_pairs(SUMS, WORTHS), sum_of_pairs(SUMS, WORTHS, A, B, C, A), sum_of_pairs(SUMS, WORTHS, B)],
                         [0, 15, 5])
        self.assertEqual(sum_of_pairs(ODDS, {A: (3, 1), C: (5, 3)}, A, C, C), (25, 3))
        self.assertEqual(sum_of_pairs(Scale.classes(2), {A: (0, 7), C: (2, -1)}, A, C), (2, 6))

    def test_great_amounts(self):
        worths = {A: FORTY, B: 2 * FORTY, C: FORTY}
        self.assertIs(is_matching_paper(SUMS, worths, matching_paper(SUMS, worths)), True)
        self.assertEqual(sum_of_pairs(SUMS, worths, B, B), 4 * FORTY)
        worths = {A: (10 ** 3000 + 1, 10 ** 3000), B: (3, 2)}
        self.assertEqual(greatest_matching(ODDS, worths), (B,))


class NumbersTest(Case):

    def test_sixteen_pairs(self):
        worths = {((number,), (number,)): 1 for number in range(16)}
        found = list(matchings(SUMS, worths))
        self.assertEqual(len(found), 2 ** 16)
        self.assertEqual(found[:2], [tuple(sorted(worths)), tuple(sorted(worths))[:15]])
        found = matchings(SUMS, many_worths(17))
        self.raises(TooMany, lambda: next(found), limit=16)
        self.raises(InvalidOperation, lambda: next(matchings(SUMS, many_worths(17), least="1")))

    def test_two_hundred_pairs(self):
        worths, more = many_worths(200), many_worths(201)
        paper = matching_paper(SUMS, worths)
        self.assertIs(is_matching_paper(SUMS, worths, paper), True)
        self.assertEqual(sum(worths[pair] for pair in paper[1]), sum(range(194, 201)))
        self.assertIs(are_prices(SUMS, worths, paper[2:]), True)
        self.assertIs(is_matching(SUMS, worths, paper[1]), True)
        for call in (lambda: is_matching(SUMS, more, paper[1]), lambda: are_prices(SUMS, more, None),
                     lambda: greatest_matching(SUMS, more), lambda: matching_paper(SUMS, more),
                     lambda: is_matching_paper(SUMS, more, paper), lambda: sum_of_pairs(SUMS, more),
                     lambda: next(matchings(SUMS, more)), lambda: sum_of_pairs(SUMS, more, ((0,), (0,)))):
            self.raises(TooMany, call, limit=200)
        self.raises(InvalidOperation, lambda: sum_of_pairs(SUMS, more, None))
        self.raises(InvalidOperation, lambda: next(matchings(SUMS, more, least="1")))

    def test_many_pairs_in_each_scale(self):
        chance = random.Random(6)
        for scale in SCALES:
            for lefts, rights in ((14, 14), (100, 100), (200, 5), (5, 200), (30, 30)):
                worths = some_worths(chance, scale, lefts, rights, 200)
                self.assertIs(is_matching_paper(scale, worths, matching_paper(scale, worths)), True)

    def test_a_long_row_of_pairs(self):
        # Each pair has a key in common with those before and behind it, and the last one turns all of them.
        worths = {((at // 2,), ((at + 1) // 2,)): 1000 + at for at in range(199)}
        paper = matching_paper(SUMS, worths)
        self.assertIs(is_matching_paper(SUMS, worths, paper), True)
        self.assertEqual(len(paper[1]), 100)


class PapersTest(Case):

    def test_matchings_with_one_thing_otherwise(self):
        for right in ((), (A,), (B,), (C,), (A, C)):
            self.assertIs(is_matching(SUMS, WORTHS, right), True)
        for wrong in ((A, B), (B, C), (C, A), (A, A), [A, C], (A, list(C)), (A, ((2,), [2])), (((True,), (1,)),), (A, None),
                      (((1,), (True,)), C), (((2,), (1,)),), (A, C, ((3,), (3,))), A, (1, 1), (((1,), (1,), ()),), ((1, 1),),
                      (((1,),),), {A: 3}, "", None, ({(1,): 1},), ([[1], [1]],)):
            self.assertIs(is_matching(SUMS, WORTHS, wrong), False)

    def test_prices_with_one_thing_otherwise(self):
        first, second = PRICES
        self.assertIs(are_prices(SUMS, WORTHS, PRICES), True)
        self.assertIs(are_prices(SUMS, WORTHS, ({(2,): 2, (1,): 3}, {(2,): 2, (1,): 0})), True)
        self.assertIs(are_prices(SUMS, WORTHS, ({(1,): 9, (2,): 9}, {(1,): 9, (2,): 9})), True)
        for wrong in ([first, second], (first,), (first, second, second), (second, first), ({**first, (3,): 0}, second),
                      ({(1,): 3}, second), (first, {(2,): 2}), (first, {**second, (3,): 0}), ({(True,): 3, (2,): 2}, second),
                      ({(1,): 3, (2,): True}, second), ({(1,): 3, (2,): "2"}, second), ({(1,): 2, (2,): 2}, second),
                      (first, {(1,): False, (2,): 2}), (first, {(1,): 0, (2,): 1}), (first, {(1,): -1, (2,): 2}),
                      ({1: 3, 2: 2}, second), (tuple(first.items()), second), (first, None), ({(1,): 3, (2,): (2,)}, second),
                      (first, {(1,): 0, (True, 1): 2}), ({(1,): 4, (2,): 2}, {(1,): -1, (2,): 2}), "ab", None, ()):
            self.assertIs(are_prices(SUMS, WORTHS, wrong), False)

    def test_papers_with_one_thing_otherwise(self):
        first, second = PRICES
        self.assertIs(is_matching_paper(SUMS, WORTHS, PAPER), True)
        self.assertIs(is_matching_paper(SUMS, WORTHS, ("matching", (A, C), {(2,): 2, (1,): 3}, second)), True)
        for wrong in (list(PAPER), PAPER[:3], PAPER + ((),), ("Matching",) + PAPER[1:], ("matching", (C, A), first, second),
                      ("matching", [A, C], first, second), ("matching", (A,), first, second), ("matching", (B,), first, second),
                      ("matching", (A, C), second, first), ("matching", (A, C), {(1,): 4, (2,): 2}, second),
                      ("matching", (A, C), first, {(1,): 1, (2,): 2}), ("matching", (A, C), [(1,), (2,)], second),
                      ("matching", (A, C), {(1,): 3, (2,): 2, (3,): 0}, second), ("matching", (A, C), {(1,): 3}, second),
                      ("matching", (A, C), {(True,): 3, (2,): 2}, second), ("matching", (A, C), first, None),
                      ("matching", None, first, second), ("matching", (A, C), PRICES), None, (), "matching"):
            self.assertIs(is_matching_paper(SUMS, WORTHS, wrong), False)

    def test_papers_of_the_other_scales(self):
        worths = {A: (2, 1), B: (3, 1)}
        self.assertIs(is_matching_paper(ODDS, worths, ("matching", (B,), {(1,): (3, 1)}, {(1,): (1, 1), (2,): (1, 1)})), True)
        self.assertIs(is_matching_paper(ODDS, worths, ("matching", (B,), {(1,): (2, 1)}, {(1,): (1, 1), (2,): (3, 2)})), True)
        for price in ((6, 2), (3, 2), (3, True), [3, 1], 3, (4, 1)):
            self.assertIs(is_matching_paper(ODDS, worths, ("matching", (B,), {(1,): price}, {(1,): (1, 1), (2,): (1, 1)})), False)
        # Below zero is what is less than one to one.
        self.assertIs(are_prices(ODDS, worths, ({(1,): (6, 1)}, {(1,): (1, 1), (2,): (1, 2)})), False)
        pairs = Scale.classes(2)
        worths = {A: (0, 5), B: (1, -9)}
        self.assertIs(is_matching_paper(pairs, worths, ("matching", (B,), {(1,): (1, -9)}, {(1,): (0, 0), (2,): (0, 0)})), True)
        self.assertIs(is_matching_paper(pairs, worths, ("matching", (A,), {(1,): (0, 5)}, {(1,): (0, 0), (2,): (0, 0)})), False)

    def test_values_that_are_papers(self):
        self.accepts(lambda value: is_matching_paper(SUMS, WORTHS, value), [PAPER], [PAPER])
        self.accepts(lambda value: is_matching(SUMS, WORTHS, value), [()])
        self.accepts(lambda value: are_prices(SUMS, {}, value), [], [[], ({}, []), [{}, {}]])
        self.accepts(lambda value: is_matching_paper(SUMS, {}, value), [])


class WrongTest(Case):

    def calls(self):
        return (lambda scale, worths: is_matching(scale, worths, None), lambda scale, worths: are_prices(scale, worths, None),
                greatest_matching, matching_paper, lambda scale, worths: is_matching_paper(scale, worths, None),
                lambda scale, worths: sum_of_pairs(scale, worths, None), lambda scale, worths: sum_of_pairs(scale, worths),
                lambda scale, worths: next(matchings(scale, worths)),
                lambda scale, worths: next(matchings(scale, worths, least="")))

    def test_wrong_scales(self):
        for call in self.calls():
            for value in values():
                if not isinstance(value, Scale):
                    self.raises(InvalidScale, lambda: call(value, WORTHS))
                    self.raises(InvalidScale, lambda: call(value, None))

    def test_wrong_worths(self):
        for call in self.calls():
            for value in values():
                if value != {}:
                    self.raises(InvalidOperation, lambda: call(SUMS, value))
            for worths in ({A: 0}, {A: -1}, {A: True}, {A: "3"}, {A: None}, {A: (3,)}, {(1, 1): 3}, {((1,), 1): 3}, {(1, (1,)): 3},
                           {((1,), (True,)): 3}, {((1,),): 3}, {((1,), (1,), (1,)): 3}, {A: 3, "": 3}, {A: 3, C: 0},
                           {((None,), (1,)): 3}, {((1,), ("a",)): 3}, {(((1,),), (1,)): 3}, tuple(WORTHS.items()), list(WORTHS)):
                self.raises(InvalidOperation, lambda: call(SUMS, worths))
            for worths in ({A: 3}, {A: (1, 1)}, {A: (1, 2)}, {A: (4, 2)}, {A: (2, True)}, {A: [2, 1]}):
                self.raises(InvalidOperation, lambda: call(ODDS, worths))
            for worths in ({A: (0, 0)}, {A: (0, -1)}, {A: (-1, 5)}, {A: (1, 0, 0)}):
                self.raises(InvalidOperation, lambda: call(Scale.classes(2), worths))
        # A form that is wrong counts ahead of the number of pairs.
        for call in self.calls():
            self.raises(InvalidOperation, lambda: call(SUMS, {**many_worths(300), A: 0}))

    def test_wrong_pairs_and_sums(self):
        self.refuses(InvalidOperation, lambda value: sum_of_pairs(SUMS, WORTHS, value))
        self.refuses(InvalidOperation, lambda value: sum_of_pairs(SUMS, WORTHS, A, value, C))
        for wrong in (((True,), (1,)), [(1,), (1,)], ((2,), (1,)), ((1,), [1])):
            self.raises(InvalidOperation, lambda: sum_of_pairs(SUMS, WORTHS, wrong))
        for value in values():
            if value is None or exactly(value, [0, 1, 2, 3, 4, 5, 8, 9, 200, -1, FORTY, -FORTY]):
                list(matchings(SUMS, WORTHS, least=value))
            else:
                self.raises(InvalidOperation, lambda: next(matchings(SUMS, WORTHS, least=value)))
        self.raises(InvalidOperation, lambda: next(matchings(ODDS, {}, least=1)))

    def test_generators_raise_when_the_first_result_is_asked_for(self):
        for found, error in ((matchings(None, {}), InvalidScale), (matchings(SUMS, None), InvalidOperation)):
            self.raises(error, lambda: next(found))

    def test_nothing_changes(self):
        worths = copy.deepcopy(WORTHS)
        matching_paper(SUMS, worths), list(matchings(SUMS, worths)), is_matching_paper(SUMS, worths, PAPER)
        self.raises(InvalidOperation, lambda: sum_of_pairs(SUMS, worths, A, None))
        self.raises(InvalidOperation, lambda: matching_paper(ODDS, worths))
        self.assertEqual((worths, list(worths)), (WORTHS, list(WORTHS)))
        first = matching_paper(SUMS, worths)
        first[2].clear()
        self.assertIs(is_matching_paper(SUMS, worths, matching_paper(SUMS, worths)), True)


if __name__ == "__main__":
    unittest.main()
