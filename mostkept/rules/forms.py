"""Columns and rules as plain tuples, for all modules about rules."""

from mostkept.base.checks import is_ascending


def is_some(columns, value):
    """Return whether the value is an ascending tuple of some of the columns."""
    return isinstance(value, tuple) and is_within(value, columns) and is_ascending(value)


def is_rule(columns, value):
    """Return whether the value is a rule over the columns."""
    if not isinstance(value, tuple) or len(value) != 2:
        return False
    return is_some(columns, value[0]) and is_some(columns, value[1]) and value[1] != ()


def is_within(some, others):
    """Return whether all of some columns are among others."""
    return all([name in others for name in some])


def less(columns, struck):
    """Return the columns that are not struck."""
    return tuple([name for name in columns if name not in struck])


def subsets(columns):
    """Return all sets of the columns, those with fewer first, those with equally many ascending."""
    found = [()]
    for name in columns:
        found = found + [some + (name,) for some in found]
    return sorted(found, key=lambda some: (len(some), some))


def plain_rules(rules):
    """Return the plain rules: one for each left side, with nothing of it on the right."""
    found = []
    for left in sorted(set([rule[0] for rule in rules])):
        led = [name for rule in rules if rule[0] == left for name in rule[1] if name not in left]
        if len(led) > 0:
            found.append((left, tuple(sorted(set(led)))))
    return tuple(found)


def applied(rules, start):
    """Return the rules that are used one after another from these columns, each where it adds something."""
    found = list(start)
    used = []
    grown = True
    while grown:
        grown = False
        for left, right in rules:
            if is_within(left, found) and not is_within(right, found):
                found.extend(right)
                used.append((left, right))
                grown = True
    return used


def reached(rules, start):
    """Return the columns to which the rules lead from these ones, with these ones, ascending."""
    led = [name for rule in applied(rules, start) for name in rule[1]]
    return tuple(sorted(set(list(start) + led)))
