"""Rows: tuples of integers, one for each column."""

from mostkept.base.checks import ROW_LIMIT, are_whole, is_ascending, is_index
from mostkept.errors import InvalidColumns, InvalidNumber, InvalidOperation, InvalidTable, UnknownName

LETTERS = "abcdefghijklmnopqrstuvwxyz"
MOST_LETTERS = 8
MOST_NAMES = 8


def is_name(value):
    """Return whether the value is a name."""
    if not isinstance(value, str) or not 1 <= len(value) <= MOST_LETTERS:
        return False
    return all([letter in LETTERS for letter in value])


def is_columns(value, *, least=0):
    """Return whether the value is an ascending tuple of at most eight names, and of at least so many."""
    if not is_index(least, MOST_NAMES + 1):
        raise InvalidNumber(least)
    if not isinstance(value, tuple) or not least <= len(value) <= MOST_NAMES:
        return False
    return all([is_name(one) for one in value]) and is_ascending(value)


def check_columns(columns, *, least=0):
    """Raise InvalidColumns if these are not columns, at least so many."""
    if not is_columns(columns, least=least):
        raise InvalidColumns("the columns are not an ascending tuple of at most eight names")


def check_row(columns, row):
    """Raise InvalidTable if this is not a row of the columns, which are right."""
    if not are_whole(row, len(columns)):
        raise InvalidTable("a row is not a tuple with an integer for each column")


def check_keys(columns, given):
    """Raise InvalidOperation or UnknownName if this is not a dict whose keys are some of the columns."""
    if not isinstance(given, dict) or not all([isinstance(key, str) for key in given]):
        raise InvalidOperation("the argument is not a dict whose keys are strings")
    unknown = [key for key in given if key not in columns]
    if len(unknown) > 0:
        raise UnknownName(min(unknown))


def new_names(columns, names):
    """Return the columns, each with the name that the dict has for it, in the order of the old names."""
    check_keys(columns, names)
    found = [names.get(name, name) for name in columns]
    if not all([is_name(name) for name in found]) or len(set(found)) < len(found):
        raise InvalidColumns("the new names are not different names")
    return found


def is_row(columns, value):
    """Return whether the value is a row of the columns."""
    check_columns(columns)
    return are_whole(value, len(columns))


def values_at(columns, row, some):
    """Return the values of the row in some of the columns."""
    check_columns(columns)
    check_row(columns, row)
    _check_some(columns, some)
    return _values(row, _places(columns, some))


def agreement(columns, row, other):
    """Return the columns on which the two rows agree."""
    check_columns(columns)
    check_row(columns, row)
    check_row(columns, other)
    return tuple([columns[at] for at in range(len(columns)) if row[at] == other[at]])


def groups(columns, rows, some):
    """Return the indices of the rows for each values in some of the columns."""
    found = {}
    for index, values in enumerate(_all_values(columns, rows, some)):
        found.setdefault(values, []).append(index)
    return {values: tuple(found[values]) for values in sorted(found)}


def pairs(columns, rows, some):
    """Yield the pairs of indices of rows that agree on all of some columns."""
    found = _all_values(columns, rows, some)
    for first in range(len(found)):
        for second in range(first + 1, len(found)):
            if found[first] == found[second]:
                yield (first, second)


def _all_values(columns, rows, some):
    check_columns(columns)
    if not isinstance(rows, tuple) or len(rows) > ROW_LIMIT:
        raise InvalidTable("the rows are not a tuple of at most 200 rows")
    for row in rows:
        check_row(columns, row)
    _check_some(columns, some)
    places = _places(columns, some)
    return [_values(row, places) for row in rows]


def _places(columns, some):
    return [columns.index(name) for name in some]


def _values(row, places):
    return tuple([row[at] for at in places])


def _check_some(columns, some):
    check_columns(some)
    if not all([name in columns for name in some]):
        raise InvalidColumns("some of the columns to look at are not there")
