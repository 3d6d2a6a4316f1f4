"""Covers and keys: other rules from which the same follows, and columns that lead to all."""

from mostkept.errors import InvalidRules
from mostkept.rules.closures import agreed_by, are_rows, breaks, is_rule_paper, rows_that_agree, rule_paper
from mostkept.rules.forms import is_some, is_within, less, plain_rules, reached, subsets
from mostkept.rules.rules import Rules, check_rules


def are_alike(first, second):
    """Return whether the same rules follow from both."""
    _check_both(first, second)
    return _leads_to(first, second) and _leads_to(second, first)


def _check_both(first, second):
    check_rules(first)
    check_rules(second)
    if first.columns != second.columns:
        raise InvalidRules("the second rules are over other columns than the first ones")


def _leads_to(rules, others):
    return _unlike_set(rules, others) is None


def _unlike_set(rules, others):
    """Return columns that are closed by the rules and not by the others, or None if the others follow."""
    for left, right in others.plain:
        agreed = reached(rules.plain, left)
        if not is_within(right, agreed):
            return agreed
    return None


def alike_paper(first, second):
    """Return a paper that the same rules follow from both, or that other ones do."""
    _check_both(first, second)
    for agreed in (_unlike_set(first, second), _unlike_set(second, first)):
        if agreed is not None:
            return ("unlike",) + rows_that_agree(first.columns, agreed)
    papers = tuple([rule_paper(first, rule) for rule in second.rules])
    return ("alike", papers, tuple([rule_paper(second, rule) for rule in first.rules]))


def is_alike_paper(first, second, value):
    """Return whether the value is an alike paper of the two."""
    _check_both(first, second)
    if not isinstance(value, tuple) or len(value) != 3:
        return False
    if value[0] == "alike":
        return _are_derived(first, second, value[1]) and _are_derived(second, first, value[2])
    if value[0] == "unlike" and are_rows(first, value[1:]):
        agreed = agreed_by(first.columns, value[1], value[2])
        return breaks(first, agreed) != breaks(second, agreed)
    return False


def _are_derived(rules, others, papers):
    """Return whether the papers derive each of the other rules, in their order, from the rules."""
    if not isinstance(papers, tuple) or len(papers) != len(others):
        return False
    found = [is_rule_paper(rules, rule, paper) for rule, paper in zip(others.rules, papers)]
    # A paper that a rule does not follow is a rule paper, too.
    return all(found) and all([paper[0] == "derived" for paper in papers])


def lean_cover(rules):
    """Return rules from which the same follows, and of which nothing can be left out."""
    check_rules(rules)
    lean = rules.plain
    shorter = _shortened(lean)
    while shorter is not None:
        lean = plain_rules(shorter)
        shorter = _shortened(lean)
    return Rules.of(rules.columns, lean)


def is_lean_cover(rules, value):
    """Return whether the value is a lean cover of the rules."""
    check_rules(rules)
    if not isinstance(value, Rules) or value.columns != rules.columns or not are_alike(rules, value):
        return False
    return value.rules == value.plain and _shortened(value.rules) is None


def _shortened(rules):
    """Return rules with one column less on one side from which the same follows, or None if there are none."""
    for left, right in rules:
        others = [rule for rule in rules if rule != (left, right)]
        for name in left:
            if is_within(right, reached(rules, less(left, (name,)))):
                return others + [(less(left, (name,)), right)]
        for name in right:
            # With the last column of the right side the rule goes: what is left of it is not plain.
            shorter = others + [(left, less(right, (name,)))]
            if name in reached(shorter, left):
                return shorter
    return None


def is_key(rules, value):
    """Return whether the value is a key."""
    check_rules(rules)
    if not is_some(rules.columns, value) or not _leads_to_all(rules, value):
        return False
    return not any([_leads_to_all(rules, less(value, (name,))) for name in value])


def _leads_to_all(rules, columns):
    return reached(rules.plain, columns) == rules.columns


def keys(rules):
    """Yield all keys, those with fewer columns first."""
    check_rules(rules)
    for some in subsets(rules.columns):
        if is_key(rules, some):
            yield some


def key_columns(rules):
    """Return the columns that stand in some key."""
    return tuple(sorted(set([name for key in keys(rules) for name in key])))
