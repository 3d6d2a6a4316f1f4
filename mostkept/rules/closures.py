"""Closures: what follows from rules, with papers and typical rows."""

from mostkept.base.checks import ROW_LIMIT, are_whole
from mostkept.errors import InvalidColumns, InvalidOperation, UnknownName
from mostkept.rules.forms import applied, is_rule, is_some, is_within, less, reached, subsets
from mostkept.rules.rules import check_rules


def closure(rules, *columns):
    """Return the closure of the columns."""
    return closure_of(rules, columns)


def closure_of(rules, columns):
    """Return the closure of a tuple of columns."""
    check_rules(rules)
    if not isinstance(columns, tuple):
        raise InvalidColumns("the columns are not a tuple")
    for name in columns:
        if name not in rules.columns:
            raise UnknownName(name)
    return reached(rules.plain, columns)


def is_closed(rules, value):
    """Return whether the value is an ascending tuple of columns that is closed."""
    check_rules(rules)
    return is_some(rules.columns, value) and not breaks(rules, value)


def breaks(rules, agreed):
    """Return whether rows that agree on just these columns break a rule."""
    return any([is_within(left, agreed) and not is_within(right, agreed) for left, right in rules.plain])


def closed_sets(rules):
    """Yield all closed sets of columns, those with fewer columns first."""
    check_rules(rules)
    for some in subsets(rules.columns):
        if not breaks(rules, some):
            yield some


def triggers(rules):
    """Return the least sets of columns that are not closed."""
    check_rules(rules)
    lefts = [left for left, _ in rules.plain]
    return tuple([left for left in lefts if not any([other != left and is_within(other, left) for other in lefts])])


def follows(rules, rule):
    """Return whether the rule follows from the rules."""
    check_rule(rules, rule)
    return is_within(rule[1], reached(rules.plain, rule[0]))


def check_rule(rules, rule):
    """Raise InvalidRules or InvalidOperation if these are not rules with a rule over their columns."""
    check_rules(rules)
    if not is_rule(rules.columns, rule):
        raise InvalidOperation("the rule is not a rule over the columns of the rules")


def rule_paper(rules, rule):
    """Return a paper that the rule follows from the rules, or that it does not."""
    check_rule(rules, rule)
    agreed = reached(rules.plain, rule[0])
    if is_within(rule[1], agreed):
        return ("derived", tuple(applied(rules.rules, rule[0])))
    return ("apart",) + rows_that_agree(rules.columns, agreed)


def rows_that_agree(columns, agreed):
    """Return a pair of rows that agree on just these ones of the columns."""
    return (tuple([0 for _ in columns]), tuple([0 if name in agreed else 1 for name in columns]))


def is_rule_paper(rules, rule, value):
    """Return whether the value is a rule paper of the rule."""
    check_rule(rules, rule)
    if not isinstance(value, tuple):
        return False
    if len(value) == 2 and value[0] == "derived":
        return _is_derived(rules, rule, value[1])
    if len(value) == 3 and value[0] == "apart" and are_rows(rules, value[1:]):
        agreed = agreed_by(rules.columns, value[1], value[2])
        return is_within(rule[0], agreed) and not is_within(rule[1], agreed) and not breaks(rules, agreed)
    return False


def _is_derived(rules, rule, used):
    if not isinstance(used, tuple) or not all([one in rules for one in used]):
        return False
    found = list(rule[0])
    for left, right in used:
        if not is_within(left, found):
            return False
        found.extend(right)
    return is_within(rule[1], found)


def are_rows(rules, value):
    """Return whether the value is a tuple of rows of the columns of the rules."""
    return isinstance(value, tuple) and all([are_whole(row, len(rules.columns)) for row in value])


def agreed_by(columns, row, other):
    """Return the columns on which two rows agree, which are right."""
    return tuple([name for name, here, there in zip(columns, row, other) if here == there])


def typical_rows(rules):
    """Return rows that break just the rules which do not follow."""
    check_rules(rules)
    # Two rows beside the first one agree on what their sets have in common, which is closed, too.
    rows = [rows_that_agree(rules.columns, ())[0]]
    for number, agreed in enumerate(_needed_sets(rules)):
        rows.append(tuple([0 if name in agreed else number + 1 for name in rules.columns]))
    return tuple(rows)


def _needed_sets(rules):
    """Return the closed sets that are not what other ones have in common."""
    return [some for some in subsets(rules.columns) if not breaks(rules, some) and _is_needed(rules, some)]


def _is_needed(rules, some):
    others = less(rules.columns, some)
    greater = [reached(rules.plain, some + (name,)) for name in others]
    return any([all([name in one for one in greater]) for name in others])


def are_typical(rules, value):
    """Return whether the value is typical rows of the rules."""
    check_rules(rules)
    if not are_rows(rules, value) or len(value) > ROW_LIMIT:
        return False
    columns = rules.columns
    met = sorted(set([agreed_by(columns, value[at], value[to]) for to in range(len(value)) for at in range(to)]))
    if any([breaks(rules, agreed) for agreed in met]):
        return False
    return all([agreed in met for agreed in _needed_sets(rules)])
