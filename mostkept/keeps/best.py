"""Keeps in the order of what they lose, with papers that none was left out."""

from heapq import heappop, heappush

from mostkept.base.checks import are_indices, is_ascending, is_exact, is_index
from mostkept.errors import InvalidNumber, InvalidOperation
from mostkept.keeps.finder import KeepFinder
from mostkept.keeps.greatest import is_keep_paper
from mostkept.keeps.sure import check_wish, rows_of_wish
from mostkept.orders.witnesses import check_chained
from mostkept.tables.masks import indices_in, left_by, mask_of, rival_masks, rivals_of

MOST_TAKEN = 1000


def _check_followed(table, rules, stay, go):
    check_wish(table, rules, stay, go)
    if rows_of_wish(table, rules, stay, go) is None:
        raise InvalidOperation("no keep follows the wish")


def best_first(table, rules, *, stay=(), go=()):
    """Yield the keeps that follow the wish, those with lesser losses first."""
    ranking = Ranking(table, rules, stay=stay, go=go)
    while ranking:
        keep = ranking.next_keep()
        yield keep


def loss_levels(table, rules, *, stay=(), go=()):
    """Yield the losses of the keeps that follow the wish with the numbers of these keeps, lesser losses first."""
    ranking = Ranking(table, rules, stay=stay, go=go)
    while ranking:
        ranking.next_keep()
        level = ranking.loss
        # What is within the loss of the keep before it has just this loss.
        others = list(ranking.within(level))
        yield (level, 1 + len(others))


class Ranking:
    """Tells the keeps that follow a wish one by one, those with lesser losses first.

    Each wish that is still open is kept with one of its greatest keeps. Sets of rows are integers as in
    mostkept.tables.masks.
    """

    def __init__(self, table, rules, *, stay=(), go=()):
        _check_followed(table, rules, stay, go)
        check_chained(rules)
        self._table = table
        self._rules = rules
        self._wish = (stay, go)
        self._finder = KeepFinder(table, rules)
        self._told = []
        self._loss = None
        self._open = []
        self._opened = 0
        # The wish whose keep was told last, as its branches are looked at only when a further keep is asked for.
        self._last = None
        # The wishes whose keeps were told, each with its keep.
        self._branched = []
        self._add(mask_of(stay), mask_of(go), self._finder.best(self._finder.left_by(mask_of(stay), mask_of(go))))

    @property
    def table(self):
        """Return the table."""
        return self._table

    @property
    def rules(self):
        """Return the rules."""
        return self._rules

    @property
    def wish(self):
        """Return the pair of the rows that must stay and those that must go."""
        return self._wish

    @property
    def told(self):
        """Return the keeps that were told."""
        return tuple(self._told)

    @property
    def loss(self):
        """Return the loss of the keep that was told last, or None."""
        return self._loss

    def __bool__(self):
        return bool(len(self._open) > 0 or self._last is not None and self._last[2] > self._last[0])

    def __len__(self):
        return len(self._told)

    def __eq__(self, other):
        return (isinstance(other, Ranking) and self._table == other._table and self._rules == other._rules
                and self._wish == other._wish and self._told == other._told)

    def __str__(self):
        return f"ranking: {len(self._told)} keeps told"

    def next_keep(self):
        """Tell the next keep and return it, or None if there is none."""
        self._look_ahead()
        if len(self._open) == 0:
            return None
        _, _, stay, go, keep = heappop(self._open)
        self._last = (stay, go, keep)
        self._branched.append(self._last)
        self._loss = self._loss_of(keep)
        self._told.append(indices_in(keep))
        return self._told[-1]

    def take(self, many):
        """Tell the next keeps, at most so many, and return them."""
        if not is_index(many, MOST_TAKEN + 1):
            raise InvalidNumber(many)
        before = len(self._told)
        while len(self._told) < before + many and self.next_keep() is not None:
            pass
        return tuple(self._told[before:])

    def within(self, amount):
        """Tell the next keep and yield it, each time, as long as its loss is not greater than the amount."""
        if not self._table.scale.is_amount(amount):
            raise InvalidOperation("the amount is not an amount of the scale of the table")
        while self._has_within(amount):
            keep = self.next_keep()
            yield keep

    def paper_so_far(self):
        """Return a ranking paper for the keeps that were told."""
        branches = {wish: self._finder.paper(self._finder.left_by(wish[0], wish[1])) for wish in self._all_wishes()}
        for stay, go, keep in self._branched:
            branches[(stay, go)] = indices_in(keep)
        found = {(indices_in(stay), indices_in(go)): branches[(stay, go)] for stay, go in branches}
        return ("ranked", self.told, {wish: found[wish] for wish in sorted(found)})

    def twin(self):
        """Return an independent ranking that is equal to this one."""
        other = Ranking(self._table, self._rules, stay=self._wish[0], go=self._wish[1])
        other._told = list(self._told)
        other._loss = self._loss
        other._open = list(self._open)
        other._opened = self._opened
        other._last = self._last
        other._branched = list(self._branched)
        return other

    def _all_wishes(self):
        """Return the wishes that are not branched, as pairs of sets of rows."""
        begun = [(mask_of(self._wish[0]), mask_of(self._wish[1]))]
        for stay, go, keep in self._branched:
            begun.extend(wish_branches(stay, go, keep))
        known = {(stay, go): True for stay, go, _ in self._branched}
        return [wish for wish in begun if wish not in known]

    def _add(self, stay, go, keep):
        """Put a wish with a greatest one of its keeps among those that are open."""
        heappush(self._open, (self._place(keep), self._opened, stay, go, keep))
        self._opened = self._opened + 1

    def _look_ahead(self):
        """Put the branches of the wish whose keep was told last among those that are open."""
        if self._last is None:
            return
        stay, go, keep = self._last
        self._last = None
        for cluster in self._finder.clusters(self._finder.left_by(stay, go)):
            # Other clusters keep what they have: the rows that a branch puts into the wish to stay are of this keep.
            left = cluster
            for index in indices_in(keep & cluster & ~stay):
                row = 1 << index
                found = keep & ~cluster | self._finder.best(left & ~row)
                self._add(stay | keep & (row - 1), go | row, found)
                left = self._finder.without_rivals(left, index)

    def _has_within(self, amount):
        """Return whether there is a next keep and its loss is not greater than the amount."""
        self._look_ahead()
        return len(self._open) > 0 and not self._table.scale.is_less(amount, self._loss_of(self._open[0][4]))

    def _loss_of(self, keep):
        return self._table.amount_of(indices_in((1 << len(self._table)) - 1 & ~keep))

    def _place(self, keep):
        """Return a value for the place of the keep: that of a keep with a lesser loss is less in Python's order."""
        weights = self._table.weights
        kept = indices_in(keep)
        lost = indices_in((1 << len(self._table)) - 1 & ~keep)
        if self._table.scale.word == "sums":
            return sum([weights[index] for index in lost])
        if self._table.scale.word == "classes":
            return tuple([sum([weights[index][at] for index in lost]) for at in range(self._table.scale.size)])
        # The loss as a fraction whose lower part is the same for all keeps.
        place = 1
        for number in [weights[index][0] for index in lost] + [weights[index][1] for index in kept]:
            place = place * number
        return place


def wish_branches(stay, go, keep):
    """Return the branches of a wish by a keep that fills it, as pairs of sets of rows."""
    found = []
    for index in indices_in(keep & ~stay):
        row = 1 << index
        found.append((stay | keep & (row - 1), go | row))
    return found


def is_ranking_paper(table, rules, value, *, stay=(), go=()):
    """Return whether the value is a ranking paper of the wish."""
    _check_followed(table, rules, stay, go)
    if not isinstance(value, tuple) or len(value) != 3 or value[0] != "ranked" or not isinstance(value[2], dict):
        return False
    rivals = rival_masks(table, rules)
    if not _are_ranked(table, rivals, value[1]) or not all([is_exact(wish) for wish in value[2]]):
        return False
    most = None if value[1] == () else table.amount_of(value[1][-1])
    waiting = [(mask_of(stay), mask_of(go))]
    reached = 0
    branched = 0
    while len(waiting) > 0:
        reached = reached + 1
        wish = waiting.pop()
        given = value[2].get((indices_in(wish[0]), indices_in(wish[1])))
        if are_indices(given, len(table)) and given in value[1]:
            if not _fills(rivals, wish, mask_of(given)):
                return False
            branched = branched + 1
            waiting.extend(wish_branches(wish[0], wish[1], mask_of(given)))
        elif not _leaves_no_less(table.only_all(indices_in(left_by(rivals, wish[0], wish[1]))), rules, given, most):
            return False
    # A wish leads to its branches alone, so each key that is there was reached once if their numbers are equal.
    return reached == len(value[2]) and branched == len(value[1])


def _are_ranked(table, rivals, value):
    """Return whether the value is a tuple of different keeps, none with a lesser loss than the one before it."""
    if not isinstance(value, tuple) or not all([_is_keep(rivals, keep) for keep in value]):
        return False
    amounts = [table.amount_of(keep) for keep in value]
    if any([table.scale.is_less(amounts[at], amounts[at + 1]) for at in range(len(amounts) - 1)]):
        return False
    return len(set(value)) == len(value)


def _is_keep(rivals, value):
    if not are_indices(value, len(rivals)) or not is_ascending(value):
        return False
    rows = mask_of(value)
    return rivals_of(rivals, rows) & rows == 0


def _fills(rivals, wish, keep):
    """Return whether a keep fills the wish."""
    return wish[0] & ~keep == 0 and left_by(rivals, keep, wish[1]) == keep


def _leaves_no_less(table, rules, given, most):
    """Return whether a keep paper of the table is given that keeps no more than this amount, if there is one."""
    if not is_keep_paper(table, rules, given):
        return False
    return most is None or not table.scale.is_less(most, table.amount_of(given[1]))
