"""Greatest keeps of a table by rules that have a chain, with keep papers."""

from mostkept.base.checks import has_keys, is_exact, is_whole
from mostkept.errors import InvalidOperation, InvalidStep
from mostkept.keeps.matchings import is_matching_paper, matching_paper
from mostkept.orders.chains import behind, chain, is_chain, steps
from mostkept.orders.witnesses import check_chained
from mostkept.tables.conflicts import check_both, check_keep

# How many things a part has, for each of the words with which it begins.
LENGTHS = {"common": 3, "fixed": 4, "pair": 7}


def greatest_keep(table, rules, *, along=None):
    """Return a greatest keep."""
    return keep_paper(table, rules, along=along)[1]


def least_loss(table, rules):
    """Return the loss of a greatest keep."""
    kept = greatest_keep(table, rules)
    return table.scale.minus(table.total, table.amount_of(kept))


def keep_paper(table, rules, *, along=None):
    """Return a keep paper, along a chain if one is passed."""
    check_both(table, rules)
    if along is not None and not is_chain(rules, along):
        raise InvalidStep("the steps to go along are not a chain of the rules")
    check_chained(rules)
    taken = chain(rules) if along is None else along
    part, kept = best_part(table, taken, _all_indices(table))
    return ("keep", kept, part)


def _all_indices(table):
    return tuple(range(len(table)))


def best_part(table, taken, indices):
    """Return a part that keeps the most of these rows by the steps, and the rows that stay by it."""
    if taken == ():
        return ("all",), indices
    step = taken[0]
    grouped = _grouped(table, step, indices)
    found = {key: best_part(table, taken[1:], grouped[key]) for key in grouped}
    parts = {key: found[key][0] for key in found}
    kept = {key: found[key][1] for key in found}
    if step[0] == "common":
        return step + (parts,), _joined(kept, list(kept))
    worths = _worths(table, kept)
    if step[0] == "fixed":
        value = _most(table.scale, worths)
        return step + (value, parts), kept.get(value, ())
    paper = matching_paper(table.scale, worths)
    return step + paper[1:] + (parts,), _joined(kept, paper[1])


def _grouped(table, step, indices):
    """Return the rows for each key that the parts of the step have, ascending."""
    found = {}
    for index in indices:
        found.setdefault(_key(table.columns, table[index], step), []).append(index)
    return {key: tuple(found[key]) for key in sorted(found)}


def _key(columns, row, step):
    if step[0] == "pair":
        return (_values(columns, row, step[1]), _values(columns, row, step[2]))
    return row[columns.index(step[1])]


def _values(columns, row, some):
    return tuple([row[columns.index(name)] for name in some])


def _joined(kept, chosen):
    """Return all rows that are kept under the chosen keys, ascending."""
    return tuple(sorted([index for key in chosen for index in kept[key]]))


def _worths(table, kept):
    return {key: table.amount_of(kept[key]) for key in kept}


def _most(scale, worths):
    """Return the first key with the greatest worth, or None if there is none."""
    found = None
    for key in worths:
        if found is None or scale.is_less(worths[found], worths[key]):
            found = key
    return found


def is_keep_paper(table, rules, value):
    """Return whether the value is a keep paper."""
    check_both(table, rules)
    if not isinstance(value, tuple) or len(value) != 3 or value[0] != "keep":
        return False
    kept = _kept_rows(table, rules, _all_indices(table), value[2])
    return kept is not None and kept == value[1] and is_exact(value[1])


def is_part(table, rules, value):
    """Return whether the value is a right part."""
    check_both(table, rules)
    return _kept_rows(table, rules, _all_indices(table), value) is not None


def kept_by(table, rules, part):
    """Return the indices of the rows that stay by a right part."""
    check_both(table, rules)
    kept = _kept_rows(table, rules, _all_indices(table), part)
    if kept is None:
        raise InvalidOperation("the part is not a right part")
    return kept


def amount_of_part(table, rules, part):
    """Return what a right part keeps."""
    kept = kept_by(table, rules, part)
    return table.amount_of(kept)


def _kept_rows(table, rules, indices, value):
    """Return which of these rows stay by a part, or None if the value is not a part that is right for them."""
    if value == ("all",):
        return indices if rules.plain == () else None
    step = _step_of(value)
    if step not in steps(rules) or len(value) != LENGTHS[step[0]]:
        return None
    kept = _kept_by_parts(table, behind(rules, step), _grouped(table, step, indices), value[-1])
    if kept is None:
        return None
    if step[0] == "common":
        return _joined(kept, list(kept))
    worths = _worths(table, kept)
    if step[0] == "fixed":
        return kept.get(value[2], ()) if _is_most(table.scale, worths, value[2]) else None
    paper = ("matching",) + value[3:6]
    return _joined(kept, value[3]) if is_matching_paper(table.scale, worths, paper) else None


def _step_of(value):
    """Return the step that a part takes, or None if the value is not a part of some form."""
    if not isinstance(value, tuple) or len(value) == 0:
        return None
    return value[:3] if value[0] == "pair" else value[:2]


def _kept_by_parts(table, rules, grouped, parts):
    """Return which rows stay for each key, or None if the parts are not right for the rows of the keys."""
    if not has_keys(parts, grouped):
        return None
    kept = {key: _kept_rows(table, rules, grouped[key], parts[key]) for key in grouped}
    return None if any([kept[key] is None for key in kept]) else kept


def _is_most(scale, worths, value):
    """Return whether the value is a key than which none has a greater worth, or None if there is no key."""
    if len(worths) == 0:
        return value is None
    if not is_whole(value) or value not in worths:
        return False
    return not any([scale.is_less(worths[value], worths[key]) for key in worths])


def is_greatest(table, rules, keep):
    """Return whether the keep is greatest."""
    check_keep(table, rules, keep)
    return table.amount_of(keep) == table.amount_of(greatest_keep(table, rules))


def steps_of(table, rules, paper):
    """Yield the steps of a keep paper, that of a part before those of its parts."""
    if not is_keep_paper(table, rules, paper):
        raise InvalidOperation("the paper is not a keep paper")
    part = paper[2]
    yield from _steps_in(part)


def _steps_in(part):
    """Yield the steps of a right part."""
    if part != ("all",):
        yield _step_of(part)
        parts = part[-1]
        for key in sorted(parts):
            inner = parts[key]
            yield from _steps_in(inner)
