"""Steps, which strike columns, and chains of steps behind which all sets of columns are closed."""

from mostkept.errors import InvalidStep
from mostkept.rules.closures import triggers
from mostkept.rules.forms import reached
from mostkept.rules.rules import check_rules


def steps(rules):
    """Return all steps of the rules, ascending."""
    found = triggers(rules)
    if len(found) == 0:
        return ()
    common = [("common", name) for name in found[0] if all([name in trigger for trigger in found])]
    fixed = [("fixed", name) for name in reached(rules.plain, ())]
    if len(found) == 2 and reached(rules.plain, found[0]) == reached(rules.plain, found[1]):
        return tuple(common + fixed + [("pair", found[0], found[1])])
    return tuple(common + fixed)


def is_step(rules, value):
    """Return whether the value is a step of the rules."""
    return value in steps(rules)


def behind(rules, *steps):
    """Return the rules behind several steps."""
    return behind_all(rules, steps)


def behind_all(rules, steps):
    """Return the rules behind a tuple of steps."""
    check_rules(rules)
    found = _behind_or_none(rules, steps)
    if found is None:
        raise InvalidStep("the steps are not a tuple of steps, each one of the rules behind those before it")
    return found


def _behind_or_none(rules, value):
    """Return the rules behind a tuple of steps, or None if the value is none."""
    if not isinstance(value, tuple):
        return None
    found = rules
    for step in value:
        if not is_step(found, step):
            return None
        found = _behind_step(found, step)
    return found


def _behind_step(rules, step):
    return rules.struck_all(step[1] + step[2] if step[0] == "pair" else (step[1],))


def _walk(rules):
    """Return steps of the rules that cannot be continued, and the rules behind them."""
    taken = ()
    found = rules
    possible = steps(found)
    while len(possible) > 0:
        taken = taken + (possible[0],)
        found = _behind_step(found, possible[0])
        possible = steps(found)
    return (taken, found)


def chain(rules):
    """Return a chain of the rules, or None if there is none."""
    taken, left = _walk(rules)
    return taken if left.plain == () else None


def rest(rules):
    """Return the rules for which no step is possible any more."""
    return _walk(rules)[1]


def is_chain(rules, value):
    """Return whether the value is a chain of the rules."""
    check_rules(rules)
    left = _behind_or_none(rules, value)
    return left is not None and left.plain == ()


def chains(rules):
    """Yield all chains, ascending."""
    if chain(rules) is not None:
        ways = _all_ways(rules)
        yield from _chains_from(ways, rules.columns, ())


def _all_ways(rules):
    """Return for the columns of the rules, and of all behind them, the steps with the columns behind each."""
    found = {}
    waiting = [rules]
    while len(waiting) > 0:
        here = waiting.pop()
        # What is behind steps depends on the columns that are left, not on the steps that struck the others.
        if here.columns not in found:
            ways = [(step, _behind_step(here, step)) for step in steps(here)]
            found[here.columns] = [(step, left.columns) for step, left in ways]
            waiting.extend([left for _, left in ways])
    return found


def _chains_from(ways, columns, taken):
    """Yield the chains that begin with these steps, behind which these columns are left."""
    # If there is a chain, all steps that cannot be continued are one.
    if len(ways[columns]) == 0:
        yield taken
    for step, left in ways[columns]:
        longer = taken + (step,)
        yield from _chains_from(ways, left, longer)


def chain_lengths(rules):
    """Return the least and the greatest number of steps of a chain, or None if there is none."""
    if chain(rules) is None:
        return None
    ways = _all_ways(rules)
    lengths = {}
    for columns in sorted(ways, key=len):
        least = min([lengths[left][0] + 1 for _, left in ways[columns]], default=0)
        lengths[columns] = (least, max([lengths[left][1] + 1 for _, left in ways[columns]], default=0))
    return lengths[rules.columns]
