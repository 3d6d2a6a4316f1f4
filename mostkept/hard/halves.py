"""Half prices: bounds of the least loss, and greatest keeps, for rules with a chain or without one."""

from mostkept.base.checks import is_index
from mostkept.errors import InvalidOperation, TooMany
from mostkept.hard.flows import RowFlows
from mostkept.hard.search import KeepSearch
from mostkept.tables.conflicts import check_both, filled
from mostkept.tables.masks import indices_in, rival_masks

MAX_CONFLICTS = 2000
MAX_CLUSTER = 24


def half_paper(table, rules):
    """Return a half paper."""
    check_both(table, rules)
    rivals = rival_masks(table, rules)
    _check_few(rivals)
    flows = RowFlows(table, rivals)
    flows.grow()
    return ("half", flows.halves(), flows.flows())


def _check_few(rivals):
    """Raise TooMany if too many pairs of rows conflict."""
    # Each pair is there from both sides.
    if sum([len(indices_in(mask)) for mask in rivals]) > 2 * MAX_CONFLICTS:
        raise TooMany(MAX_CONFLICTS)


def is_half_paper(table, rules, value):
    """Return whether the value is a half paper."""
    check_both(table, rules)
    if not isinstance(value, tuple) or len(value) != 3 or value[0] != "half":
        return False
    rivals = rival_masks(table, rules)
    if not _are_halves(rivals, value[1]) or not _are_flow_amounts(table, rivals, value[2]):
        return False
    begun = [[] for _ in rivals]
    ended = [[] for _ in rivals]
    for (index, other), amount in value[2].items():
        begun[index].append(amount)
        ended[other].append(amount)
    sums = [table.scale.plus_all(tuple(amounts)) for amounts in begun + ended]
    if any([table.scale.is_less(weight, sums[at]) for at, weight in enumerate(table.weights + table.weights)]):
        return False
    return table.scale.plus_all(tuple(sums[:len(table)])) == _doubled_loss(table, value[1])


def _are_halves(rivals, value):
    """Return whether the value is halves of a table whose rows have these rivals."""
    if not isinstance(value, tuple) or len(value) != len(rivals) or not all([is_index(one, 3) for one in value]):
        return False
    return all([value[at] + value[other] >= 2 for at, mask in enumerate(rivals) for other in indices_in(mask)])


def _are_flow_amounts(table, rivals, value):
    """Return whether the value is a dict from pairs of conflicting rows to amounts above zero."""
    if not isinstance(value, dict) or not all([_is_conflict(rivals, pair) for pair in value]):
        return False
    return all([table.scale.is_amount(one) and table.scale.sign(one) > 0 for one in value.values()])


def _is_conflict(rivals, value):
    if not isinstance(value, tuple) or len(value) != 2 or not all([is_index(one, len(rivals)) for one in value]):
        return False
    return rivals[value[0]] & (1 << value[1]) > 0


def _doubled_loss(table, halves):
    weights = [weight for half, weight in zip(halves, table.weights) for _ in range(half)]
    return table.scale.plus_all(tuple(weights))


def doubled_bound(table, rules):
    """Return the least doubled loss of halves."""
    paper = half_paper(table, rules)
    return _doubled_loss(table, paper[1])


def settled(table, rules, paper):
    """Return the rows with the half 0 and those with the half 2 of a half paper."""
    if not is_half_paper(table, rules, paper):
        raise InvalidOperation("the paper is not a half paper")
    _check_few(rival_masks(table, rules))
    return (_rows_with(paper[1], 0), _rows_with(paper[1], 2))


def _rows_with(halves, wanted):
    return tuple([index for index, half in enumerate(halves) if half == wanted])


def near_keep(table, rules):
    """Return a full keep whose loss is at most the doubled bound."""
    paper = half_paper(table, rules)
    # Rows with the half 0 do not conflict, and each other row is lost at no more than its half says.
    return filled(table, rules, _rows_with(paper[1], 0))


def exact_keep(table, rules):
    """Return a greatest keep, by a search through the clusters."""
    check_both(table, rules)
    search = KeepSearch(table, rules)
    everything = (1 << len(table)) - 1
    if any([len(indices_in(cluster)) > MAX_CLUSTER for cluster in search.clusters(everything)]):
        raise TooMany(MAX_CLUSTER)
    return indices_in(search.best(everything))
