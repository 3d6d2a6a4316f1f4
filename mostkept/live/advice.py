"""Advice on rules: which of them to drop, or which columns to look at one by one, for a chain."""

from mostkept.errors import InvalidColumns, InvalidOperation, TooMany
from mostkept.keeps.greatest import best_part, least_loss
from mostkept.orders.chains import chain
from mostkept.rules.forms import is_some, is_within, subsets
from mostkept.rules.rules import Rules, check_rules
from mostkept.tables.conflicts import check_both

MAX_ADVISED = 8


def loose_selections(rules):
    """Yield the greatest selections of the rules that have a chain, those with more rules first."""
    found = _loose_rules(rules)
    for chosen in found:
        yield Rules.of(rules.columns, chosen)


def _loose_rules(rules):
    """Return the rules of each greatest loose selection."""
    check_rules(rules)
    if len(rules) > MAX_ADVISED:
        raise TooMany(MAX_ADVISED)
    found = []
    for chosen in sorted(subsets(rules.rules), key=lambda some: (-len(some), some)):
        if not any([is_within(chosen, other) for other in found]) and _is_loose(Rules.of(rules.columns, chosen)):
            found.append(chosen)
    return found


def _is_loose(rules):
    return chain(rules) is not None


def least_dropped(rules):
    """Return the least number of rules without which the others have a chain."""
    found = _loose_rules(rules)
    return len(rules) - len(found[0])


def is_loosening(rules, value):
    """Return whether the value is an ascending tuple of columns that loosen the rules."""
    check_rules(rules)
    return is_some(rules.columns, value) and _is_loose(rules.struck_all(value))


def loosening_sets(rules):
    """Yield the sets of columns that loosen the rules with no smaller one in them, those with fewer columns first."""
    check_rules(rules)
    found = []
    for some in subsets(rules.columns):
        if not any([is_within(other, some) for other in found]) and is_loosening(rules, some):
            found.append(some)
            yield some


def group_losses(table, rules, columns):
    """Return for the values that rows have in the columns the least loss of the group of these rows."""
    check_both(table, rules)
    if not is_some(table.columns, columns):
        raise InvalidColumns("the columns are not an ascending tuple of columns of the table")
    if not is_loosening(rules, columns):
        raise InvalidOperation("the columns do not loosen the rules")
    grouped = table.grouped(columns)
    taken = chain(rules.struck_all(columns))
    return {values: _loss_of(table, taken, grouped[values]) for values in grouped}


def _loss_of(table, taken, indices):
    """Return the least loss of some rows by the steps of a chain."""
    _, kept = best_part(table, taken, indices)
    return table.amount_of(tuple([index for index in indices if index not in kept]))


def rule_prices(table, rules):
    """Return for each rule the least loss by all others, or None where these have no chain."""
    check_both(table, rules)
    others = {(left, right): rules.without_rule(left, right) for left, right in rules.rules}
    return {rule: least_loss(table, others[rule]) if _is_loose(others[rule]) else None for rule in others}


def cheapest_selection(table, rules):
    """Return a greatest loose selection with the least loss of the table by it, and this loss."""
    check_both(table, rules)
    selections = list(loose_selections(rules))
    losses = tuple([least_loss(table, one) for one in selections])
    at = table.scale.ranked(losses)[-1]
    return (selections[at], losses[at])
