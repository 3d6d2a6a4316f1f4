"""Small problems in tables: by a witness, greatest keeps of a table answer a small problem."""

from mostkept.base.checks import are_whole, is_ascending, is_whole
from mostkept.base.rows import values_at
from mostkept.errors import InvalidKeep, InvalidOperation, InvalidTable
from mostkept.hard.search import KeepSearch
from mostkept.orders.witnesses import is_witness, small_rules
from mostkept.tables.conflicts import check_listed, is_keep
from mostkept.tables.tables import Table

SMALL_COLUMNS = ("a", "b", "c")
MOST_PAIRS = 60


def _check_small(small):
    if not isinstance(small, Table) or small.columns != SMALL_COLUMNS:
        raise InvalidTable("the small table is not a table with the columns a, b and c")


def translated(rules, witness, small):
    """Return the table with the columns of the rules whose keeps are those of the small table."""
    if not is_witness(rules, witness):
        raise InvalidOperation("the witness is not a witness of the rules")
    _check_small(small)
    numbers = [_numbers(small, tuple(witness[2][name])) for name in rules.columns]
    rows = tuple([tuple([column[index] for column in numbers]) for index in range(len(small))])
    return Table.of(rules.columns, rows, scale=small.scale, weights=small.weights)


def _numbers(small, letters):
    """Return for each row the number of different values in the letters that are less than those of the row."""
    found = [values_at(SMALL_COLUMNS, row, letters) for row in small.rows]
    numbers = {values: number for number, values in enumerate(sorted(set(found)))}
    return [numbers[values] for values in found]


def is_choices(problem, value):
    """Return whether the value is choices of the problem."""
    rules = small_rules(problem).rules
    if not isinstance(value, tuple) or len(value) != len(rules):
        return False
    return all([_are_chosen(one, len(left)) for one, (left, _) in zip(value, rules)])


def _are_chosen(value, many):
    """Return whether the value is a dict from tuples of so many integers to integers."""
    if not isinstance(value, dict) or not all([are_whole(key, many) for key in value]):
        return False
    return all([is_whole(one) for one in value.values()])


def choices_of(problem, small, keep):
    """Return the choices of a keep of the small table."""
    rules = small_rules(problem)
    _check_small(small)
    if not is_keep(small, rules, keep):
        raise InvalidKeep("the indices are not a keep of the small table by the problem")
    return tuple([dict(sorted([_sides(small[index], rule) for index in keep])) for rule in rules.rules])


def _sides(row, rule):
    """Return the left values of a row with its right value."""
    return (values_at(SMALL_COLUMNS, row, rule[0]), values_at(SMALL_COLUMNS, row, rule[1])[0])


def agreeing(problem, small, choices):
    """Return the keep of the rows that agree with the choices."""
    rules = small_rules(problem)
    _check_small(small)
    if not is_choices(problem, choices):
        raise InvalidOperation("the choices are no choices of the problem")
    return tuple([index for index, row in enumerate(small.rows) if _agrees(row, rules.rules, choices)])


def _agrees(row, rules, choices):
    sides = [_sides(row, rule) for rule in rules]
    return all([left in chosen and chosen[left] == right for (left, right), chosen in zip(sides, choices)])


def answered(rules, witness, small, server):
    """Return the choices of the keep that the server finds for the translated table."""
    table = translated(rules, witness, small)
    problem = witness[1]
    keep = server(table, rules)
    return choices_of(problem, small, keep)


def triangle_table(first, second, third):
    """Return the small table of all triangles whose three sides are among the pairs."""
    for pairs in (first, second, third):
        if not isinstance(pairs, tuple) or len(pairs) > MOST_PAIRS or not all([are_whole(one, 2) for one in pairs]):
            raise InvalidOperation("the pairs are not a tuple of at most 60 pairs of integers")
        if not is_ascending(pairs):
            raise InvalidOperation("the pairs do not ascend")
    rows = [(a, b, c) for a, b in first for other, c in second if other == a and (b, c) in third]
    return Table.of(SMALL_COLUMNS, tuple(rows))


def first_greatest(problem, small):
    """Return the first greatest keep of the small table in Python's order."""
    rules = small_rules(problem)
    _check_small(small)
    check_listed(small, rules)
    search = KeepSearch(small, rules)
    left = (1 << len(small)) - 1
    most = search.most(left)
    found = []
    # No greatest keep begins with all of another one, so the first one has each row as early as it can.
    for index in range(len(small)):
        row = 1 << index
        if left & row > 0:
            beside = search.without_rivals(left & ~row, index)
            if small.scale.plus(small.amount_of(tuple(found) + (index,)), search.most(beside)) == most:
                found.append(index)
                left = beside
            else:
                left = left & ~row
    return tuple(found)
