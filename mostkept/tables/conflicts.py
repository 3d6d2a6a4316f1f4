"""Conflicts of the rows of a table by rules, and the keeps, of whose rows no two conflict."""

from mostkept.base.checks import are_indices, has_keys, is_ascending, is_exact, is_index
from mostkept.errors import InvalidKeep, InvalidOperation, InvalidTable, TooMany
from mostkept.rules.closures import agreed_by, breaks
from mostkept.rules.forms import is_within
from mostkept.rules.rules import check_rules
from mostkept.tables.tables import Table

MAX_LISTED = 16


def check_table(table):
    """Raise InvalidTable if this is not a table."""
    if not isinstance(table, Table):
        raise InvalidTable("the table is not a table")


def check_both(table, rules):
    """Raise an error if these are not a table and rules over its columns."""
    check_table(table)
    check_rules(rules)
    if table.columns != rules.columns:
        raise InvalidOperation("the rules are over other columns than the table")


def check_keep(table, rules, keep):
    """Raise an error if these are not a table and rules over its columns with a keep."""
    if not is_keep(table, rules, keep):
        raise InvalidKeep("the indices are not a keep of the table and the rules")


def conflicts(table, rules):
    """Yield the pairs of indices of rows that conflict, ascending."""
    check_both(table, rules)
    indices = tuple(range(len(table)))
    yield from _conflicts_among(table, rules, indices)


def _conflicts_among(table, rules, indices):
    """Yield the pairs of rows that conflict, of those with these ascending indices."""
    known = {}
    for at, index in enumerate(indices):
        for other in indices[at + 1:]:
            agreed = agreed_by(table.columns, table[index], table[other])
            # Rows agree on few different sets of columns, however many rows there are.
            if agreed not in known:
                known[agreed] = breaks(rules, agreed)
            if known[agreed]:
                yield (index, other)


def _rivals_among(table, rules, index, indices):
    """Return those of the indices whose rows conflict with this one."""
    # The table raises the error of an index that is none.
    row = table[index]
    return tuple([other for other in indices if breaks(rules, agreed_by(table.columns, row, table[other]))])


def rivals(table, rules, index):
    """Return the indices of the rows that conflict with this one."""
    check_both(table, rules)
    return _rivals_among(table, rules, index, tuple(range(len(table))))


def all_rivals(table, rules):
    """Return the list of the rivals of each row."""
    found = [[] for _ in table.rows]
    for index, other in conflicts(table, rules):
        found[index].append(other)
        found[other].append(index)
    return found


def conflict_rule(table, rules, index, other):
    """Return the first rule that the two rows break together, or None."""
    check_both(table, rules)
    row = table[index]
    agreed = agreed_by(table.columns, row, table[other])
    for left, right in rules.rules:
        if is_within(left, agreed) and not is_within(right, agreed):
            return (left, right)
    return None


def is_keep(table, rules, value):
    """Return whether the value is a keep."""
    check_both(table, rules)
    if not are_indices(value, len(table)) or not is_ascending(value):
        return False
    for _ in _conflicts_among(table, rules, value):
        return False
    return True


def is_full(table, rules, keep):
    """Return whether no other row can be added to the keep."""
    check_keep(table, rules, keep)
    return _free_row(table, rules, keep) is None


def _free_row(table, rules, keep):
    """Return the first row that can be added to the keep, or None."""
    for index in _others(table, keep):
        if _is_free(table, rules, index, keep):
            return index
    return None


def _is_free(table, rules, index, keep):
    return _rivals_among(table, rules, index, keep) == ()


def _others(table, keep):
    return [index for index in range(len(table)) if index not in keep]


def filled(table, rules, keep):
    """Return the keep with each row that can be added to what is there when its turn comes."""
    check_keep(table, rules, keep)
    found = keep
    for index in _others(table, keep):
        if _is_free(table, rules, index, found):
            found = found + (index,)
    return tuple(sorted(found))


def loss(table, rules, keep):
    """Return the sum of the weights of the rows that are not in the keep."""
    check_keep(table, rules, keep)
    return table.amount_of(tuple(_others(table, keep)))


def keeps(table, rules):
    """Yield all keeps in Python's order."""
    check_listed(table, rules)
    against = all_rivals(table, rules)
    yield from _keeps_from(against, ())


def check_listed(table, rules):
    """Raise an error if these are not a table and rules over its columns, or it has too many rows to list keeps."""
    check_both(table, rules)
    if len(table) > MAX_LISTED:
        raise TooMany(MAX_LISTED)


def _keeps_from(against, keep):
    """Yield the keeps that begin with these rows, where the list tells the rivals of each row."""
    yield keep
    first = 0 if keep == () else keep[-1] + 1
    for index in range(first, len(against)):
        if not any([other in keep for other in against[index]]):
            longer = keep + (index,)
            yield from _keeps_from(against, longer)


def full_keeps(table, rules):
    """Yield all full keeps in Python's order."""
    check_listed(table, rules)
    against = all_rivals(table, rules)
    for keep in _keeps_from(against, ()):
        if all([index in keep or any([other in keep for other in found]) for index, found in enumerate(against)]):
            yield keep


def clusters(table, rules):
    """Return the clusters of the table, ascending."""
    check_both(table, rules)
    against = all_rivals(table, rules)
    found = []
    for index in range(len(table)):
        if not any([index in cluster for cluster in found]):
            found.append(_connected(against, index))
    return tuple(found)


def _connected(against, index):
    """Return the rows to which conflicts lead from this one, ascending."""
    reached = [index]
    # The list grows while it is gone through, so by places.
    at = 0
    while at < len(reached):
        reached.extend([other for other in against[reached[at]] if other not in reached])
        at += 1
    return tuple(sorted(reached))


def full_paper(table, rules, keep):
    """Return a paper that the keep is full, or that it is not."""
    check_keep(table, rules, keep)
    index = _free_row(table, rules, keep)
    if index is not None:
        return ("open", index)
    return ("full", {other: _rivals_among(table, rules, other, keep)[0] for other in _others(table, keep)})


def is_full_paper(table, rules, keep, value):
    """Return whether the value is a full paper of the keep."""
    check_keep(table, rules, keep)
    if not isinstance(value, tuple) or len(value) != 2:
        return False
    if value[0] == "open":
        return is_index(value[1], len(table)) and value[1] not in keep and _is_free(table, rules, value[1], keep)
    return value[0] == "full" and _are_stopped(table, rules, keep, value[1])


def _are_stopped(table, rules, keep, value):
    """Return whether the value is a dict from each row outside of the keep to a row of it with which it conflicts."""
    if not has_keys(value, _others(table, keep)) or not all([is_exact(other) for other in value.values()]):
        return False
    return all([other in keep and not _is_free(table, rules, index, (other,)) for index, other in value.items()])
