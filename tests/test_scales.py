"""[2.1], [2.2] and the module mostkept.base.scales, with [0.9]."""

import itertools
import unittest
from fractions import Fraction
from math import gcd

from mostkept.base import scales
from mostkept.base.scales import Scale, chance_of, chance_of_rows, odds_for
from mostkept.errors import InvalidKeep, InvalidNumber, InvalidOperation
from tests.helper import FORTY, NAMES, PLAN_ROWS, Case, plan, values

EXAMPLES = """
>>> [Scale.classes(2).plus((1, 0), (0, 3)), Scale.odds().minus((3, 1), (2, 1)), Scale.sums().ranked((2, 5, 5))]
[(1, 3), (3, 2), (1, 2, 0)]
>>> [odds_for((3, 4)), chance_of_rows(((3, 1), (2, 1)), (0,)), (4, 2) in Scale.odds(), str(Scale.classes(2))]
[(3, 1), (1, 4), False, 'classes of 2']
"""
SUMS, ODDS = Scale.sums(), Scale.odds()
# Of the values of the helper, for each scale, its weights and its other amounts.
SUM_WEIGHTS = [1, 2, 3, 4, 5, 8, 9, 200, FORTY]
SUM_OTHERS = [0, -1, -FORTY]
CLASS_WEIGHTS = {1: [(1,), (2,)], 2: [(1, 0), (0, 1), (1, 1), (2, 1), (4, 2), (1, 2), (3, 4), (FORTY, 1)],
                 3: [(1, 1, 1), (1, 1, 5)], 4: [(1, 1, 1, 1), (0, 1, 2, 3)]}
CLASS_OTHERS = {1: [(0,), (-1,)], 2: [(0, 0), (3, -1)], 3: [], 4: []}
ODD_WEIGHTS = [(2, 1)]
ODD_OTHERS = [(1, 1), (1, 2), (3, 4), (FORTY, 1)]
SOME = {
    "sums": [0, 1, -1, 7, -7, 10 ** 39, FORTY, 10 ** 4000, -10 ** 4500],
    "classes": [(0, 0), (1, 0), (0, 1), (-1, 5), (1, -5), (2, 2), (0, 10 ** 4000), (-10 ** 4500, 3)],
    "odds": [(1, 1), (2, 1), (1, 2), (3, 2), (2, 3), (5, 1), (1000000, 1), (10 ** 4000, 10 ** 4000 + 1), (10 ** 4500, 3)],
}
SCALES = [SUMS, Scale.classes(2), ODDS]
ALL = [(SUMS, SUM_WEIGHTS, SUM_OTHERS), (ODDS, ODD_WEIGHTS, ODD_OTHERS),
       *[(Scale.classes(size), CLASS_WEIGHTS[size], CLASS_OTHERS[size]) for size in (1, 2, 3, 4)]]


def value_of(scale, amount):
    """Return a number or a tuple that Python itself orders as the scale orders amounts."""
    return Fraction(*amount) if scale.word == "odds" else amount


def sum_of(scale, amounts):
    """Return the sum by other means than the scale's."""
    if scale.word == "sums":
        return sum(amounts)
    if scale.word == "classes":
        return tuple(sum(column) for column in zip(*amounts, (0,) * scale.size))
    product = Fraction(1)
    for amount in amounts:
        product *= Fraction(*amount)
    return (product.numerator, product.denominator)


class ScaleTest(Case):

    def test_examples(self):
        self.examples(EXAMPLES, globals())

    def test_constants(self):
        self.assertEqual((scales.MAX_SIZE, scales.MAX_ODDS), (4, 10 ** 6))

    def test_properties(self):
        told = [(scale.word, scale.size, scale.zero, scale.one, str(scale)) for scale, _, _ in ALL]
        self.assertEqual(told, [
            ("sums", 1, 0, 1, "sums"), ("odds", 1, (1, 1), (2, 1), "odds"),
            ("classes", 1, (0,), (1,), "classes of 1"), ("classes", 2, (0, 0), (1, 0), "classes of 2"),
            ("classes", 3, (0, 0, 0), (1, 0, 0), "classes of 3"), ("classes", 4, (0,) * 4, (1, 0, 0, 0), "classes of 4"),
        ])

    def test_one_is_a_weight_and_zero_an_amount(self):
        for scale, _, _ in ALL:
            self.assertIs(scale.is_weight(scale.one), True)
            self.assertIs(scale.is_weight(scale.zero), False)
            self.assertIs(scale.is_amount(scale.zero), True)

    def test_a_scale_never_changes(self):
        for scale, _, _ in ALL:
            for name in ("word", "size", "zero", "one"):
                with self.assertRaises(AttributeError):
                    setattr(scale, name, 3)

    def test_sizes(self):
        self.refuses(InvalidNumber, Scale.classes, [1, 2, 3, 4], keeps="value")
        for size in (0, 5, 10 ** 50, True):
            self.raises(InvalidNumber, lambda: Scale.classes(size), value=size)

    def test_weights(self):
        for scale, weights, _ in ALL:
            self.accepts(scale.is_weight, weights)

    def test_amounts(self):
        for scale, weights, others in ALL:
            self.accepts(scale.is_amount, weights + others)
            self.accepts(lambda value: value in scale, weights + others)

    def test_integers_of_more_than_forty_digits_stand_in_no_weight(self):
        self.assertIs(SUMS.is_weight(FORTY), True)
        self.assertIs(SUMS.is_weight(FORTY + 1), False)
        self.assertIs(Scale.classes(2).is_weight((0, FORTY)), True)
        self.assertIs(Scale.classes(2).is_weight((FORTY + 1, 0)), False)
        self.assertIs(Scale.classes(2).is_weight((1, FORTY + 1)), False)
        self.assertIs(ODDS.is_weight((FORTY + 1, 1)), False)

    def test_amounts_have_any_integers(self):
        for scale in SCALES:
            for amount in SOME[scale.word]:
                self.assertIs(scale.is_amount(amount), True)
                self.assertIs(amount in scale, True)

    def test_weights_by_odds(self):
        for weight in ((2, 1), (3, 2), (1000000, 1), (1000000, 999999), (999999, 1000 - 2)):
            self.assertIs(ODDS.is_weight(weight), gcd(*weight) == 1)
        for value in ((1000001, 1), (1000001, 1000000), (1, 1), (1, 2), (4, 2), (2, 0), (0, 1), (2, -1), (-2, -1),
                      (-1, -2), (3, 3), (2,), (2, 1, 1), (2, True), (True, True), [2, 1], (1000000, 2)):
            self.assertIs(ODDS.is_weight(value), False)

    def test_amounts_by_odds(self):
        for value in ((1, 1), (1, 2), (1, 10 ** 50), (10 ** 50, 10 ** 50 + 1)):
            self.assertIs(value in ODDS, True)
        for value in ((2, 2), (0, 1), (1, 0), (-1, 2), (1, -2), (-1, -1), (10 ** 50, 10), (1, True), (1,), (1, 1, 1)):
            self.assertIs(value in ODDS, False)

    def test_weights_by_classes(self):
        for size in (1, 2, 3, 4):
            scale = Scale.classes(size)
            for value in itertools.product((-1, 0, 1), repeat=size):
                self.assertIs(scale.is_weight(value), min(value) >= 0 and max(value) > 0)
                self.assertIs(scale.is_amount(value), True)

    def test_equality(self):
        again = [Scale.sums(), Scale.odds(), *[Scale.classes(size) for size in (1, 2, 3, 4)]]
        for index, (scale, _, _) in enumerate(ALL):
            for at, other in enumerate(again):
                self.assertIs(scale == other, at == index)
                self.assertIs(scale != other, at != index)

    def test_equality_accepts_every_value(self):
        for value in values():
            if not isinstance(value, Scale):
                for scale in SCALES:
                    self.assertIs(scale == value, False)
                    self.assertIs(scale != value, True)


class AmountsTest(Case):

    def test_sums_and_differences(self):
        for scale in SCALES:
            for amount, other in itertools.product(SOME[scale.word], repeat=2):
                both = scale.plus(amount, other)
                self.assertEqual(both, sum_of(scale, (amount, other)))
                self.assertEqual(scale.plus_all((amount, other)), both)
                self.assertEqual(scale.minus(both, other), amount)
                self.assertIs(both in scale, True)

    def test_sums_of_no_amount_and_of_several(self):
        for scale, weights, _ in ALL:
            self.assertEqual(scale.plus(), scale.zero)
            self.assertEqual(scale.plus_all(()), scale.zero)
            self.assertEqual(scale.plus(weights[0]), weights[0])
        for scale in SCALES:
            amounts = tuple(SOME[scale.word])
            self.assertEqual(scale.plus(*amounts), sum_of(scale, amounts))
            self.assertEqual(scale.plus_all(amounts), scale.plus(*amounts))
        self.assertEqual(ODDS.plus((2, 3), (3, 4), (2, 1)), (1, 1))
        self.assertEqual(Scale.classes(4).plus((1, 2, 3, 4), (-1, 0, 0, 5)), (0, 2, 3, 9))

    def test_every_amount_has_a_negative_one(self):
        for scale in SCALES:
            for amount in SOME[scale.word]:
                self.assertEqual(scale.plus(amount, scale.negative(amount)), scale.zero)
                self.assertEqual(scale.minus(scale.zero, amount), scale.negative(amount))
                self.assertIs(scale.negative(amount) in scale, True)

    def test_twice(self):
        for scale in SCALES:
            for amount in SOME[scale.word]:
                self.assertEqual(scale.twice(amount), sum_of(scale, (amount, amount)))
        self.assertEqual((SUMS.twice(3), Scale.classes(2).twice((1, -2)), ODDS.twice((3, 2))), (6, (2, -4), (9, 4)))

    def test_there_are_no_halves(self):
        for scale in SCALES:
            doubled = [scale.twice(amount) for amount in SOME[scale.word]]
            self.assertNotIn(scale.one, doubled)
            self.assertEqual([name for name in dir(scale) if "half" in name or "halve" in name], [])

    def test_less_and_sign(self):
        for scale in SCALES:
            for amount, other in itertools.product(SOME[scale.word], repeat=2):
                less = value_of(scale, amount) < value_of(scale, other)
                self.assertIs(scale.is_less(amount, other), less)
            for amount in SOME[scale.word]:
                sign = scale.sign(amount)
                self.assertIs(sign.__class__, int)
                zero = value_of(scale, scale.zero)
                self.assertEqual(sign, (value_of(scale, amount) > zero) - (value_of(scale, amount) < zero))

    def test_classes_are_compared_as_tuples(self):
        self.assertIs(Scale.classes(2).is_less((1, 9), (2, 0)), True)
        self.assertIs(Scale.classes(2).is_less((1, 9), (1, 9)), False)
        self.assertEqual(Scale.classes(3).sign((0, -1, 5)), -1)
        self.assertEqual(Scale.classes(3).sign((0, 1, -5)), 1)

    def test_adding_does_not_change_what_is_less(self):
        for scale in SCALES:
            for amount, other, more in itertools.product(SOME[scale.word][:7], repeat=3):
                self.assertEqual(scale.is_less(amount, other),
                                 scale.is_less(scale.plus(amount, more), scale.plus(other, more)))

    def test_weights_are_greater_than_zero(self):
        for scale, weights, _ in ALL:
            for weight in [*weights, scale.one]:
                self.assertEqual(scale.sign(weight), 1)
                self.assertIs(scale.is_less(scale.zero, weight), True)

    def test_greatest_and_least(self):
        for scale in SCALES:
            amounts = SOME[scale.word]
            ordered = sorted(amounts, key=lambda amount: value_of(scale, amount))
            for many in (1, 2, 3):
                for some in itertools.permutations(amounts[:6], many):
                    inside = [amount for amount in ordered if amount in some]
                    self.assertEqual((scale.greatest(*some), scale.least(*some)), (inside[-1], inside[0]))
            self.assertEqual((scale.greatest(*amounts), scale.least(*amounts)), (ordered[-1], ordered[0]))
            self.assertEqual(scale.greatest(amounts[3], amounts[3]), amounts[3])

    def test_ranked(self):
        for scale in SCALES:
            self.assertEqual(scale.ranked(()), ())
            for many in (1, 2, 3, 4):
                for some in itertools.product(SOME[scale.word][:4], repeat=many):
                    expected = sorted(range(many), key=lambda at: value_of(scale, some[at]), reverse=True)
                    self.assertEqual(scale.ranked(some), tuple(expected))
            every = tuple(SOME[scale.word]) * 3
            expected = sorted(range(len(every)), key=lambda at: value_of(scale, every[at]), reverse=True)
            self.assertEqual(scale.ranked(every), tuple(expected))

    def test_no_amounts(self):
        for scale, _, _ in ALL:
            self.raises(InvalidOperation, scale.greatest)
            self.raises(InvalidOperation, scale.least)

    def test_values_that_are_no_amounts(self):
        for scale, weights, others in ALL:
            right, one = weights + others, scale.one
            calls = [
                scale.plus, lambda value: scale.plus(one, value), lambda value: scale.plus(one, value, one),
                lambda value: scale.plus_all((one, value)), lambda value: scale.minus(value, one),
                lambda value: scale.minus(one, value), scale.negative, scale.twice, scale.sign,
                lambda value: scale.is_less(value, one), lambda value: scale.is_less(one, value),
                scale.greatest, lambda value: scale.greatest(one, value), lambda value: scale.greatest(value, one),
                scale.least, lambda value: scale.least(one, value), lambda value: scale.least(value, one),
                lambda value: scale.ranked((value,)), lambda value: scale.ranked((one, value)),
            ]
            for call in calls:
                self.refuses(InvalidOperation, call, right)

    def test_values_that_are_no_tuples_of_amounts(self):
        right = [(), (0,), (1,), (2,), (-1,), (0, 0), (1, 0), (0, 1), (1, 1), (2, 1), (4, 2), (1, 2), (3, 4),
                 (1, 1, 1), (1, 1, 5), (1, 1, 1, 1), (1, 1, 1, 1, 1), (FORTY, 1), (3, -1), (0, 1, 2, 3)]
        self.refuses(InvalidOperation, SUMS.plus_all, right)
        self.refuses(InvalidOperation, SUMS.ranked, right)
        triples = [(), ((1, 1, 5),), PLAN_ROWS]
        self.refuses(InvalidOperation, Scale.classes(3).plus_all, triples)
        self.refuses(InvalidOperation, Scale.classes(3).ranked, triples)
        self.refuses(InvalidOperation, ODDS.plus_all, [(), ((1, 1),)])
        self.refuses(InvalidOperation, ODDS.ranked, [(), ((1, 1),)])

    def test_what_is_passed_gives_no_access(self):
        amounts = ((2, 1), (3, 2))
        ODDS.plus_all(amounts)
        ODDS.ranked(amounts)
        self.assertEqual(amounts, ((2, 1), (3, 2)))


class ChancesTest(Case):

    def test_odds_for_and_chance_of(self):
        self.assertEqual([odds_for((2, 3)), odds_for((3, 5)), odds_for((999, 1000))], [(2, 1), (3, 2), (999, 1)])
        self.assertEqual([chance_of((2, 1)), chance_of((3, 2)), chance_of((999, 1))], [(2, 3), (3, 5), (999, 1000)])
        for right, wrong in itertools.product(range(1, 40), repeat=2):
            if right > wrong and gcd(right, wrong) == 1:
                chance = chance_of((right, wrong))
                self.assertEqual(Fraction(*chance), Fraction(right, right + wrong))
                self.assertEqual(gcd(*chance), 1)
                self.assertEqual(odds_for(chance), (right, wrong))

    def test_odds_up_to_a_million(self):
        self.assertEqual(odds_for((1000000, 1000001)), (1000000, 1))
        self.assertEqual(odds_for((1000000, 1999999)), (1000000, 999999))
        self.assertEqual(chance_of((1000000, 999999)), (1000000, 1999999))
        for chance in ((1000001, 1000002), (1000001, 1000003), (1, 2), (1, 3), (499, 1000), (FORTY, FORTY + 1)):
            self.raises(InvalidOperation, lambda: odds_for(chance))
        self.raises(InvalidOperation, lambda: chance_of((1000001, 1)))

    def test_wrong_chances_and_odds(self):
        self.refuses(InvalidOperation, odds_for, [(3, 4)])
        self.refuses(InvalidOperation, chance_of, ODD_WEIGHTS)
        for value in ((4, 6), (0, 1), (1, 1), (3, 2), (-2, 3), (-3, -2), (2, True), (True, 2), (2, 3, 1), [2, 3], (2,)):
            self.raises(InvalidOperation, lambda: odds_for(value))

    def test_chance_of_rows(self):
        self.assertEqual(chance_of_rows((), ()), (1, 1))
        self.assertEqual(chance_of_rows(((3, 1),), ()), (1, 4))
        self.assertEqual(chance_of_rows(((3, 1),), (0,)), (3, 4))
        weights = ((3, 1), (2, 1), (5, 2), (3, 1))
        total = Fraction(0)
        for many in range(5):
            for some in itertools.combinations(range(4), many):
                chance = chance_of_rows(weights, some)
                expected = Fraction(1)
                for at, (right, wrong) in enumerate(weights):
                    expected *= Fraction(right if at in some else wrong, right + wrong)
                self.assertEqual(chance, (expected.numerator, expected.denominator))
                total += expected
        self.assertEqual(total, 1)

    def test_the_lesser_loss_has_the_greater_chance(self):
        weights = ((3, 1), (2, 1), (5, 2), (7, 3))
        sets = [some for many in range(5) for some in itertools.combinations(range(4), many)]
        losses = [ODDS.plus_all(tuple(weights[at] for at in range(4) if at not in some)) for some in sets]
        chances = [Fraction(*chance_of_rows(weights, some)) for some in sets]
        for one, other in itertools.product(range(16), repeat=2):
            self.assertEqual(ODDS.is_less(losses[one], losses[other]), chances[one] > chances[other])

    def test_up_to_two_hundred_weights(self):
        weights = ((1000000, 999999),) * 200
        chance = chance_of_rows(weights, tuple(range(199)))
        self.assertEqual(chance, (1000000 ** 199 * 999999, 1999999 ** 200))
        self.raises(InvalidOperation, lambda: chance_of_rows(weights + ((2, 1),), ()))

    def test_wrong_weights_and_indices(self):
        self.refuses(InvalidOperation, lambda value: chance_of_rows(value, ()), [()])
        self.refuses(InvalidOperation, lambda value: chance_of_rows(((2, 1), value), (0,)), ODD_WEIGHTS)
        self.refuses(InvalidKeep, lambda value: chance_of_rows(((2, 1),) * 4, value),
                     [(), (0,), (1,), (2,), (0, 1), (1, 2), (0, 1, 2, 3)])
        for value in ((4,), (0, 4), (1, 0), (0, 0), (0, True), (-1,), (0, 2, 1), [0], (0, None), ("0",)):
            self.raises(InvalidKeep, lambda: chance_of_rows(((2, 1),) * 4, value))

    def test_two_wrong_arguments(self):
        self.raises(InvalidOperation, lambda: chance_of_rows(((1, 1),), (5,)))
        self.raises(InvalidOperation, lambda: chance_of_rows(None, None))
        self.raises(InvalidOperation, lambda: chance_of_rows([(2, 1)], [0]))


if __name__ == "__main__":
    unittest.main()
