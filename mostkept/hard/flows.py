"""Flows between conflicting rows, made as great as they can be."""

from mostkept.tables.masks import indices_in


class RowFlows:
    """Flows from rows to rows with which they conflict, at the beginning none.

    Each row stands on two sides: on the left it begins flows, on the right it ends them, on each side up to its
    weight. Sets of rows are integers as in mostkept.tables.masks.
    """

    def __init__(self, table, rivals):
        self._scale = table.scale
        self._rivals = rivals
        self._can_begin = list(table.weights)
        self._can_end = list(table.weights)
        self._flows = {}
        # For each row on the right the rows from which something flows to it.
        self._from = [0 for _ in rivals]
        # How the last search reached the rows of each side: from which row on the other side.
        self._lefts = {}
        self._rights = {}

    def grow(self):
        """Make the flows as great as they can be."""
        end = self._search()
        while end is not None:
            self._push(self._path_to(end))
            end = self._search()

    def flows(self):
        """Return the flows, ascending by their pairs."""
        return {pair: self._flows[pair] for pair in sorted(self._flows)}

    def halves(self):
        """Return halves whose doubled loss is all flows together, when these are as great as they can be."""
        # Where the last search could go on nothing is at its limit: so lefts that it missed and rights that it
        # reached have all that flows, and each just once.
        rows = list(range(len(self._rivals)))
        return tuple([(0 if row in self._lefts else 1) + (1 if row in self._rights else 0) for row in rows])

    def _search(self):
        """Go the shortest ways on which more can flow; return a row on the right that can end more, or None."""
        waiting = [row for row, amount in enumerate(self._can_begin) if amount != self._scale.zero]
        self._lefts = {row: None for row in waiting}
        self._rights = {}
        unseen = (1 << len(self._rivals)) - 1
        # The list grows while it is gone through, so by places.
        at = 0
        while at < len(waiting):
            for right in indices_in(self._rivals[waiting[at]] & unseen):
                self._rights[right] = waiting[at]
                if self._can_end[right] != self._scale.zero:
                    return right
                # What flows to this row from others can come from the row in front of it instead.
                others = [left for left in indices_in(self._from[right]) if left not in self._lefts]
                self._lefts.update({left: right for left in others})
                waiting.extend(others)
            unseen = unseen & ~self._rivals[waiting[at]]
            at += 1
        return None

    def _path_to(self, end):
        """Return the pairs on the way to a row on the right, the last one first: every second one flows less."""
        pairs = []
        right = end
        while right is not None:
            left = self._rights[right]
            pairs.append((left, right))
            right = self._lefts[left]
            if right is not None:
                pairs.append((left, right))
        return pairs

    def _push(self, pairs):
        """Let flow as much more as the way can take."""
        first = pairs[-1][0]
        last = pairs[0][1]
        limits = [self._can_begin[first], self._can_end[last]] + [self._flows[pair] for pair in pairs[1::2]]
        amount = self._scale.least(*limits)
        self._can_begin[first] = self._scale.minus(self._can_begin[first], amount)
        self._can_end[last] = self._scale.minus(self._can_end[last], amount)
        for pair in pairs[::2]:
            self._flows[pair] = self._scale.plus(self._flows.get(pair, self._scale.zero), amount)
            self._from[pair[1]] = self._from[pair[1]] | (1 << pair[0])
        for pair in pairs[1::2]:
            self._flows[pair] = self._scale.minus(self._flows[pair], amount)
            if self._flows[pair] == self._scale.zero:
                del self._flows[pair]
                self._from[pair[1]] = self._from[pair[1]] & ~(1 << pair[0])
