"""Live tables: a table and rules that are edited, in groups of edits that can be taken back and made again."""

from mostkept.base.checks import is_index, is_whole
from mostkept.errors import InvalidEdit, InvalidNumber, InvalidRules, InvalidTable, NothingToUndo, TooMany
from mostkept.hard.halves import doubled_bound, near_keep
from mostkept.keeps.greatest import greatest_keep, keep_paper, least_loss
from mostkept.orders.chains import chain
from mostkept.orders.witnesses import check_chained, order_paper
from mostkept.tables.conflicts import check_both, loss

# How many things an edit has, for each of the words with which it begins.
LENGTHS = {"row": 3, "drop": 2, "weight": 3, "rule": 3, "unrule": 3}


class Live:
    """A table with rules that can be edited."""

    def __init__(self, table, rules):
        check_both(table, rules)
        # All that changes is one value that never changes itself, so that a trial needs no more than to hold it: the
        # moments before the groups that can be undone, the moment now, and those behind the groups that were undone.
        self._state = ((), _moment(table, rules), ())

    @property
    def table(self):
        """Return the table."""
        return self._state[1][0]

    @property
    def rules(self):
        """Return the rules."""
        return self._state[1][1]

    def __len__(self):
        return len(self._state[0])

    def __eq__(self, other):
        return isinstance(other, Live) and self.table == other.table and self.rules == other.rules

    def __str__(self):
        return f"live table of {len(self.table)} rows, {len(self.rules)} rules, {len(self)} groups"

    def order_paper(self):
        """Return an order paper of the rules."""
        return order_paper(self.rules)

    def least_loss(self):
        """Return the loss of a greatest keep."""
        check_chained(self.rules)
        return self._state[1][2]

    def greatest_keep(self):
        """Return a greatest keep."""
        return greatest_keep(self.table, self.rules)

    def keep_paper(self):
        """Return a keep paper."""
        return keep_paper(self.table, self.rules)

    def bounds(self):
        """Return the loss of some keep, and the doubled bound, which is not less."""
        keep = near_keep(self.table, self.rules)
        return (loss(self.table, self.rules, keep), doubled_bound(self.table, self.rules))

    def apply(self, *edits):
        """Make edits as one group, and return the news."""
        return self.apply_all(edits)

    def apply_all(self, edits):
        """Make a tuple of edits as one group, and return the news."""
        past, now, _ = self._state
        after = _edited(now, edits)
        if len(edits) > 0:
            self._state = (past + (now,), after, ())
        return (now[2], after[2])

    def undo(self, many=1):
        """Take back the last groups, and return the news."""
        _check_many(many, len(self._state[0]))
        return self._move(-many)

    def redo(self, many=1):
        """Make the groups again that were undone last, and return the news."""
        _check_many(many, len(self._state[2]))
        return self._move(many)

    def _move(self, by):
        """Go so many moments ahead, or back if the number is below zero, and return the news."""
        past, now, ahead = self._state
        moments = past + (now,) + ahead
        at = len(past) + by
        self._state = (moments[:at], moments[at], moments[at + 1:])
        return (now[2], moments[at][2])

    def effect(self, *edits):
        """Return the news that edits would have."""
        return self.effect_all(edits)

    def effect_all(self, edits):
        """Return the news that a tuple of edits would have."""
        now = self._state[1]
        return (now[2], _edited(now, edits)[2])

    def worth(self, index):
        """Return the amount by which the least loss falls if the row is dropped."""
        if not is_index(index, len(self.table)):
            raise InvalidNumber(index)
        least = self.least_loss()
        return self.table.scale.minus(least, least_loss(self.table.without(index), self.rules))

    def losses(self):
        """Yield the least losses, or None, from the beginning until now, one for each moment between groups."""
        past, now, _ = self._state
        for moment in past + (now,):
            yield moment[2]

    def trial(self):
        """Return what is used by with: at the end of the block all is as at its beginning."""
        return Trial(self)

    def during(self, call):
        """Return what the call returns for this live table, which is afterwards as before."""
        with self.trial() as one:
            found = call(one)
        return found

    def branch(self):
        """Return an independent live table in the same state."""
        other = Live(self.table, self.rules)
        other._state = self._state
        return other


class Trial:
    """Brings a live table back to the state in which it was at the beginning of a block."""

    def __init__(self, live):
        self._live = live
        self._held = None

    def __enter__(self):
        # One trial can be used by blocks within one another.
        self._held = Held(self._live._state, self._held)
        return self._live

    def __exit__(self, kind, value, trace):
        self._live._state = self._held.state
        self._held = self._held.before


class Held:
    """A state, and what was held before it."""

    def __init__(self, state, before):
        self.state = state
        self.before = before


def _moment(table, rules):
    """Return a table and rules with their least loss, or None if the rules have no chain."""
    return (table, rules, None if chain(rules) is None else least_loss(table, rules))


def _check_many(many, most):
    if not is_whole(many) or many < 0:
        raise InvalidNumber(many)
    if many > most:
        raise NothingToUndo(many)


def _edited(moment, edits):
    """Return the moment behind edits."""
    if not isinstance(edits, tuple):
        raise InvalidEdit("the edits are not a tuple")
    if len(edits) == 0:
        return moment
    table, rules, _ = moment
    for edit in edits:
        if not _has_form(edit):
            raise InvalidEdit("an edit is none")
        try:
            table, rules = _edited_once(table, rules, edit)
        except (InvalidTable, InvalidNumber, InvalidRules, TooMany):
            raise InvalidEdit("an edit is not possible") from None
    return _moment(table, rules)


def _has_form(value):
    """Return whether the value begins with the word of an edit and is as long as such an edit."""
    if not isinstance(value, tuple) or len(value) == 0 or not isinstance(value[0], str):
        return False
    return LENGTHS.get(value[0]) == len(value)


def _edited_once(table, rules, edit):
    """Return the table and the rules behind an edit; if it is not possible, that raises the error of what is wrong."""
    if edit[0] == "row":
        return (table.with_row(edit[1], weight=edit[2]), rules)
    if edit[0] == "drop":
        return (table.without(edit[1]), rules)
    if edit[0] == "weight":
        return (table.weighted(edit[1], edit[2]), rules)
    if edit[0] == "unrule":
        return (table, rules.without_rule(edit[1], edit[2]))
    if (edit[1], edit[2]) in rules:
        raise InvalidRules("the rule is there already")
    return (table, rules.with_rule(edit[1], edit[2]))
