"""Scales: what weights are, and how amounts of them add up."""

from math import gcd

from mostkept.base.checks import ROW_LIMIT, are_indices, are_whole, is_ascending, is_index, is_whole
from mostkept.errors import InvalidKeep, InvalidNumber, InvalidOperation

MAX_SIZE = 4
MAX_ODDS = 1000000


class Scale:
    """A scale: sums, classes of a size, or odds."""

    def __init__(self, word, size):
        self._word = word
        self._size = size

    @staticmethod
    def sums():
        """Return the scale whose weights are integers."""
        return Scale("sums", 1)

    @staticmethod
    def classes(size):
        """Return the scale whose weights are tuples of so many integers."""
        if not is_index(size, MAX_SIZE + 1) or size == 0:
            raise InvalidNumber(size)
        return Scale("classes", size)

    @staticmethod
    def odds():
        """Return the scale whose weights are odds."""
        return Scale("odds", 1)

    @property
    def word(self):
        """Return the kind of scale: sums, classes or odds."""
        return self._word

    @property
    def size(self):
        """Return the size of classes, otherwise 1."""
        return self._size

    @property
    def zero(self):
        """Return the amount that changes nothing when it is added."""
        if self._word == "sums":
            return 0
        if self._word == "odds":
            return (1, 1)
        return (0,) * self._size

    @property
    def one(self):
        """Return the weight of a row for which no weight is passed."""
        if self._word == "sums":
            return 1
        if self._word == "odds":
            return (2, 1)
        return (1,) + (0,) * (self._size - 1)

    def is_weight(self, value):
        """Return whether the value is a weight."""
        if self._word == "sums":
            return _is_part(value) and value > 0
        if self._word == "odds":
            return _is_lowest(value) and _are_odds(value[0], value[1])
        return are_whole(value, self._size) and all([_is_part(one) for one in value]) and value != self.zero

    def is_amount(self, value):
        """Return whether the value is an amount."""
        if self._word == "sums":
            return is_whole(value)
        if self._word == "odds":
            return _is_lowest(value)
        return are_whole(value, self._size)

    def __contains__(self, x):
        return self.is_amount(x)

    def plus(self, *amounts):
        """Return the sum of the amounts."""
        return self.plus_all(amounts)

    def plus_all(self, amounts):
        """Return the sum of a tuple of amounts."""
        self._check_all(amounts)
        return self._sum(amounts)

    def minus(self, amount, other):
        """Return the first amount less the other one."""
        self._check_all((amount, other))
        return self._sum((amount, self._opposite(other)))

    def negative(self, amount):
        """Return the amount that gives zero with this one."""
        self._check_all((amount,))
        return self._opposite(amount)

    def twice(self, amount):
        """Return the sum of the amount and itself."""
        self._check_all((amount,))
        return self._sum((amount, amount))

    def is_less(self, amount, other):
        """Return whether the first amount is less than the other one."""
        self._check_all((amount, other))
        return self._below(amount, other)

    def sign(self, amount):
        """Return -1, 0 or 1 for an amount below zero, zero, or above it."""
        self._check_all((amount,))
        if self._below(amount, self.zero):
            return -1
        return 1 if self._below(self.zero, amount) else 0

    def greatest(self, *amounts):
        """Return the greatest of the amounts."""
        return amounts[self._ranks(amounts)[0]]

    def least(self, *amounts):
        """Return the least of the amounts."""
        return amounts[self._ranks(amounts)[-1]]

    def ranked(self, amounts):
        """Return the indices of a tuple of amounts, greater amounts first."""
        self._check_all(amounts)
        return tuple(self._order(amounts))

    def __eq__(self, other):
        return isinstance(other, Scale) and self._word == other._word and self._size == other._size

    def __str__(self):
        if self._word == "classes":
            return f"classes of {self._size}"
        return str(self._word)

    def _check_all(self, amounts):
        if not isinstance(amounts, tuple) or not all([self.is_amount(amount) for amount in amounts]):
            raise InvalidOperation("a value is not an amount of the scale")

    def _ranks(self, amounts):
        self._check_all(amounts)
        if len(amounts) == 0:
            raise InvalidOperation("there is no amount to choose")
        return self._order(amounts)

    def _sum(self, amounts):
        if self._word == "sums":
            return sum(amounts)
        if self._word == "classes":
            return tuple([sum([part[at] for part in amounts]) for at in range(self._size)])
        over = _times([part[0] for part in amounts])
        under = _times([part[1] for part in amounts])
        return _lowest(over, under)

    def _opposite(self, amount):
        if self._word == "sums":
            return -amount
        if self._word == "odds":
            return (amount[1], amount[0])
        return tuple([-part for part in amount])

    def _below(self, amount, other):
        if self._word == "odds":
            return amount[0] * other[1] < other[0] * amount[1]
        return amount < other

    def _order(self, amounts):
        order = []
        for index, amount in enumerate(amounts):
            # Behind all that are not less: so equal amounts keep their order.
            low = 0
            high = len(order)
            while low < high:
                middle = (low + high) // 2
                if self._below(amounts[order[middle]], amount):
                    high = middle
                else:
                    low = middle + 1
            order.insert(low, index)
        return order


def odds_for(chance):
    """Return the weight by odds of a row that is right with this chance."""
    if not _is_lowest(chance) or chance[0] >= chance[1]:
        raise InvalidOperation("a chance is not a pair for a fraction between zero and one")
    right = chance[0]
    wrong = chance[1] - chance[0]
    if not _are_odds(right, wrong):
        raise InvalidOperation("there is no weight by odds for the chance")
    return (right, wrong)


def chance_of(odds):
    """Return the chance with which a row of this weight by odds is right."""
    if not Scale.odds().is_weight(odds):
        raise InvalidOperation("the odds are not a weight by odds")
    return (odds[0], odds[0] + odds[1])


def chance_of_rows(weights, indices):
    """Return the chance that of rows with these weights by odds exactly those with the indices are right."""
    scale = Scale.odds()
    if not isinstance(weights, tuple) or len(weights) > ROW_LIMIT:
        raise InvalidOperation("the weights are not a tuple of at most 200 weights")
    if not all([scale.is_weight(weight) for weight in weights]):
        raise InvalidOperation("a weight is not a weight by odds")
    if not are_indices(indices, len(weights)) or not is_ascending(indices):
        raise InvalidKeep("the indices are not an ascending tuple of indices of the weights")
    over = _times([weights[at][0] if at in indices else weights[at][1] for at in range(len(weights))])
    under = _times([weight[0] + weight[1] for weight in weights])
    return _lowest(over, under)


def _is_part(value):
    return is_whole(value) and 0 <= value < 10 ** 40


def _is_lowest(value):
    return are_whole(value, 2) and value[0] > 0 and value[1] > 0 and gcd(value[0], value[1]) == 1


def _are_odds(right, wrong):
    return MAX_ODDS >= right > wrong


def _times(numbers):
    product = 1
    for number in numbers:
        product = product * number
    return product


def _lowest(over, under):
    common = gcd(over, under)
    return (over // common, under // common)
