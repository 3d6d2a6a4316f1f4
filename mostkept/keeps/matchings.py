"""Matchings with the greatest sum, and prices that show that there is no greater one."""

from mostkept.base.checks import are_whole, has_keys, is_ascending, is_exact
from mostkept.base.scales import Scale
from mostkept.errors import InvalidOperation, InvalidScale, TooMany

MAX_PAIRS = 200
MOST_LISTED = 16


def _check_form(scale, worths):
    if not isinstance(scale, Scale):
        raise InvalidScale("the scale is not a scale")
    if not isinstance(worths, dict) or not all([_is_pair(pair) for pair in worths]):
        raise InvalidOperation("the worths are not a dict from pairs of tuples of integers")
    if not all([_is_above_zero(scale, worth) for worth in worths.values()]):
        raise InvalidOperation("a worth is not an amount above zero")


def _is_pair(value):
    return isinstance(value, tuple) and len(value) == 2 and all([_is_key(one) for one in value])


def _is_key(value):
    return isinstance(value, tuple) and are_whole(value, len(value))


def _is_above_zero(scale, value):
    return scale.is_amount(value) and scale.sign(value) > 0


def _check_many(worths):
    if len(worths) > MAX_PAIRS:
        raise TooMany(MAX_PAIRS)


def _check_worths(scale, worths):
    """Raise an error if these are not a scale and at most two hundred worths."""
    _check_form(scale, worths)
    _check_many(worths)


def is_matching(scale, worths, value):
    """Return whether the value is a matching."""
    _check_worths(scale, worths)
    if not isinstance(value, tuple) or not all([_is_pair(pair) and pair in worths for pair in value]):
        return False
    return is_ascending(value) and _are_apart(value)


def _are_apart(pairs):
    """Return whether no two of the pairs have a key in common."""
    lefts = [pair[0] for pair in pairs]
    rights = [pair[1] for pair in pairs]
    return len(set(lefts)) == len(pairs) and len(set(rights)) == len(pairs)


def are_prices(scale, worths, value):
    """Return whether the value is prices."""
    _check_worths(scale, worths)
    if not isinstance(value, tuple) or len(value) != 2:
        return False
    for side in (0, 1):
        keys_here = {pair[side]: True for pair in worths}
        if not has_keys(value[side], keys_here) or not all([_is_price(scale, one) for one in value[side].values()]):
            return False
    return all([_is_paid(scale, worths[pair], value[0][pair[0]], value[1][pair[1]]) for pair in worths])


def _is_price(scale, value):
    return scale.is_amount(value) and scale.sign(value) >= 0


def _is_paid(scale, worth, price, other):
    return not scale.is_less(scale.plus(price, other), worth)


def greatest_matching(scale, worths):
    """Return a matching with the greatest sum."""
    return matching_paper(scale, worths)[1]


def is_matching_paper(scale, worths, value):
    """Return whether the value is a matching paper."""
    _check_worths(scale, worths)
    if not isinstance(value, tuple) or len(value) != 4 or value[0] != "matching":
        return False
    if not is_matching(scale, worths, value[1]) or not are_prices(scale, worths, value[2:]):
        return False
    paid = list(value[2].values()) + list(value[3].values())
    return scale.plus_all(tuple(paid)) == _sum_of(scale, worths, value[1])


def _sum_of(scale, worths, pairs):
    return scale.plus_all(tuple([worths[pair] for pair in pairs]))


def sum_of_pairs(scale, worths, *pairs):
    """Return the sum of the worths of the pairs."""
    _check_form(scale, worths)
    for pair in pairs:
        if not _is_pair(pair) or pair not in worths:
            raise InvalidOperation("a value is not a pair of the worths")
    _check_many(worths)
    return _sum_of(scale, worths, pairs)


def matchings(scale, worths, *, least=None):
    """Yield all matchings, or those with at least this sum, those with greater sums first."""
    _check_form(scale, worths)
    if least is not None and not scale.is_amount(least):
        raise InvalidOperation("the least sum is not an amount")
    _check_many(worths)
    if len(worths) > MOST_LISTED:
        raise TooMany(MOST_LISTED)
    found = _all_matchings(worths)
    if least is not None:
        found = [pairs for pairs in found if not scale.is_less(_sum_of(scale, worths, pairs), least)]
    sums = tuple([_sum_of(scale, worths, pairs) for pairs in found])
    for at in scale.ranked(sums):
        yield found[at]


def _all_matchings(worths):
    """Return all matchings, ascending."""
    found = [()]
    for pair in sorted(worths):
        found = found + [pairs + (pair,) for pairs in found if _are_apart(pairs + (pair,))]
    return sorted(found)


def matching_paper(scale, worths):
    """Return a matching with prices of the same sum."""
    _check_worths(scale, worths)
    growing = PricedMatching(scale, worths)
    for left in sorted(set([pair[0] for pair in worths])):
        growing.take_in(left)
    return growing.paper()


class PricedMatching:
    """A matching of the left keys that were taken in, with prices.

    The two prices of a pair are together never less than its worth, and for the pairs of the matching they are just
    its worth. Only a right key of the matching has a price above zero, and a left key that was taken in without
    being in the matching has the price zero. So when all are taken in, all prices are the sum of the matching.
    """

    def __init__(self, scale, worths):
        self._scale = scale
        self._worths = worths
        self._rights = {}
        for left, right in sorted(worths):
            self._rights.setdefault(left, []).append(right)
        self._prices = {}
        for left in self._rights:
            own = [worths[(left, right)] for right in self._rights[left]]
            self._prices[left] = scale.greatest(*own)
        self._others = {right: scale.zero for right in sorted(set([pair[1] for pair in worths]))}
        self._right_of = {}
        self._left_of = {}

    def paper(self):
        """Return the matching with the prices."""
        prices = {left: self._prices[left] for left in self._prices}
        others = {right: self._others[right] for right in self._others}
        return ("matching", tuple(sorted(self._right_of.items())), prices, others)

    def take_in(self, root):
        """Bring a left key into the matching, or another one out for it, or give the key the price zero."""
        depths, reached, final, right = self._grow(root)
        for left in depths:
            self._prices[left] = self._scale.minus(self._prices[left], self._scale.minus(final, depths[left]))
        for other in reached:
            rise = self._scale.minus(final, reached[other][0])
            self._others[other] = self._scale.plus(self._others[other], rise)
        while right is not None:
            left = reached[right][1]
            before = self._right_of.get(left)
            self._right_of[left] = right
            self._left_of[right] = left
            right = before

    def _grow(self, root):
        """Return what lowering the price of the root reaches before a place is free.

        These are the left keys with the amounts at which they are reached, the right keys with their amounts and the
        left keys before them, the last amount, and the right key that is free then, or None if the root stays out.
        """
        depths = {}
        reached = {}
        near = {}
        left, depth = root, self._scale.zero
        end, stop = root, self._prices[root]
        while True:
            depths[left] = depth
            if self._scale.is_less(self._scale.plus(depth, self._prices[left]), stop):
                end, stop = left, self._scale.plus(depth, self._prices[left])
            self._look(left, depth, reached, near)
            right = self._nearest(near)
            if right is None or not self._scale.is_less(near[right][0], stop):
                # The price of this left key falls to zero first, so it can go out.
                return depths, reached, stop, self._right_of.pop(end, None)
            reached[right] = near.pop(right)
            if right not in self._left_of:
                return depths, reached, reached[right][0], right
            left, depth = self._left_of[right], reached[right][0]

    def _look(self, left, depth, reached, near):
        """Put the right keys of a left key among those that are near, each with the least amount that reaches it."""
        for right in self._rights[left]:
            prices = self._scale.plus(depth, self._prices[left], self._others[right])
            amount = self._scale.minus(prices, self._worths[(left, right)])
            if right not in reached and (right not in near or self._scale.is_less(amount, near[right][0])):
                near[right] = (amount, left)

    def _nearest(self, near):
        found = None
        for right in near:
            if found is None or self._scale.is_less(near[right][0], near[found][0]):
                found = right
        return found
