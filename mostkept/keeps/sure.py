"""Sure and lost rows: greatest keeps that follow a wish, and what a row adds to them."""

from mostkept.base.checks import are_indices, is_ascending, is_index
from mostkept.errors import InvalidNumber, InvalidOperation
from mostkept.keeps.finder import KeepFinder
from mostkept.keeps.greatest import best_part, is_keep_paper, keep_paper
from mostkept.orders.chains import chain
from mostkept.orders.witnesses import check_chained
from mostkept.tables.conflicts import check_both, is_keep, rivals
from mostkept.tables.masks import indices_in


def check_wish(table, rules, stay, go):
    """Raise an error if these are not a table and rules over its columns with the two sides of a wish."""
    check_both(table, rules)
    for side in (stay, go):
        if not are_indices(side, len(table)) or not is_ascending(side):
            raise InvalidOperation("a side of the wish is not an ascending tuple of indices of the table")


def rows_of_wish(table, rules, stay, go):
    """Return the indices of the rows of the wish, or None if no keep follows it."""
    if not is_keep(table, rules, stay) or any([index in go for index in stay]):
        return None
    against = [other for index in stay for other in rivals(table, rules, index)]
    return tuple([index for index in range(len(table)) if index not in go and index not in against])


def greatest_with(table, rules, *, stay=(), go=()):
    """Return a keep with the least loss of those that follow the wish, or None if there is none."""
    check_wish(table, rules, stay, go)
    check_chained(rules)
    rows = rows_of_wish(table, rules, stay, go)
    return None if rows is None else best_part(table, chain(rules), rows)[1]


def loss_with(table, rules, *, stay=(), go=()):
    """Return the least loss of the keeps that follow the wish, or None if there is none."""
    keep = greatest_with(table, rules, stay=stay, go=go)
    return None if keep is None else table.scale.minus(table.total, table.amount_of(keep))


def row_prices(table, rules, index):
    """Return the price to keep the row and that to lose it."""
    _check_row(table, rules, index)
    check_chained(rules)
    finder = KeepFinder(table, rules)
    return _prices(table, finder, finder.best(finder.left_by(0, 0)), index)


def _check_row(table, rules, index):
    check_both(table, rules)
    if not is_index(index, len(table)):
        raise InvalidNumber(index)


def _prices(table, finder, keep, index):
    """Return the prices of the row, where the keep is a greatest one of the whole table."""
    row = 1 << index
    if keep & row == 0:
        other = finder.best(finder.left_by(row, 0))
    else:
        other = finder.best(finder.left_by(0, row))
    # What both have in common is in none of the amounts: there are less of them to add up.
    least = table.amount_of(indices_in(keep & ~other))
    price = table.scale.minus(least, table.amount_of(indices_in(other & ~keep)))
    return (price, table.scale.zero) if keep & row == 0 else (table.scale.zero, price)


def row_kind(table, rules, index):
    """Return whether the row is sure, open or lost."""
    prices = row_prices(table, rules, index)
    return _kind(table.scale, prices)


def _kind(scale, prices):
    if scale.sign(prices[1]) > 0:
        return "sure"
    return "lost" if scale.sign(prices[0]) > 0 else "open"


def row_kinds(table, rules):
    """Return for each row whether it is sure, open or lost."""
    check_both(table, rules)
    check_chained(rules)
    finder = KeepFinder(table, rules)
    keep = finder.best(finder.left_by(0, 0))
    return tuple([_kind(table.scale, _prices(table, finder, keep, index)) for index in range(len(table))])


def row_paper(table, rules, index):
    """Return a paper that the row is sure, open or lost."""
    word = row_kind(table, rules, index)
    paper = keep_paper(table, rules)
    if word == "open":
        first = greatest_with(table, rules, stay=(index,))
        return (word, paper, first, greatest_with(table, rules, go=(index,)))
    return (word, paper, keep_paper(_table_against(table, rules, index, word), rules))


def _table_against(table, rules, index, word):
    """Return the table in which a keep must keep less if the row is sure, or lost, as the word says."""
    if word == "sure":
        return table.without(index)
    return table.without_all(rivals(table, rules, index))


def is_row_paper(table, rules, index, value):
    """Return whether the value is a row paper of the row."""
    _check_row(table, rules, index)
    if not isinstance(value, tuple) or len(value) < 3 or not is_keep_paper(table, rules, value[1]):
        return False
    most = table.amount_of(value[1][1])
    if len(value) == 4 and value[0] == "open":
        both = all([is_keep(table, rules, keep) and table.amount_of(keep) == most for keep in value[2:]])
        return both and index in value[2] and index not in value[3]
    if len(value) != 3 or value[0] not in ("sure", "lost"):
        return False
    other = _table_against(table, rules, index, value[0])
    return is_keep_paper(other, rules, value[2]) and table.scale.is_less(other.amount_of(value[2][1]), most)
