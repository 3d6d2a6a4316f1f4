"""Witnesses: how a small problem that is hard is contained in rules without a chain."""

from mostkept.base.rows import is_name
from mostkept.errors import Chainless, InvalidOperation, TooMany, UnknownName
from mostkept.orders.chains import chain, is_chain, rest
from mostkept.rules.closures import breaks, triggers
from mostkept.rules.forms import is_within, less, reached
from mostkept.rules.rules import Rules, check_rules

PROBLEMS = ("labels", "row", "turn", "triangles")
SMALL_RULES = {
    "labels": ((("a",), ("c",)), (("b",), ("c",))),
    "row": ((("a",), ("b",)), (("b",), ("c",))),
    "turn": ((("a", "b"), ("c",)), (("c",), ("b",))),
    "triangles": ((("a", "b"), ("c",)), (("a", "c"), ("b",)), (("b", "c"), ("a",))),
}
# In Python's order, as the order of witnesses rests on it.
MAKINGS = ("", "a", "ab", "abc", "ac", "b", "bc", "c")
ALL_LETTERS = "abc"
MOST_COLUMNS = 4


def small_rules(problem):
    """Return the rules of a small problem."""
    _check_problem(problem)
    return Rules.of(("a", "b", "c"), SMALL_RULES[problem])


def _check_problem(problem):
    if problem not in PROBLEMS:
        raise UnknownName(problem)


def small_conflict(problem, letters):
    """Return whether two rows of a small problem that agree on exactly these letters conflict."""
    rules = small_rules(problem)
    if letters not in MAKINGS or letters == ALL_LETTERS:
        raise InvalidOperation("the letters are not a making other than that of all three")
    return breaks(rules, tuple(letters))


def shared_columns(makings, letters):
    """Return the columns whose making has no other letters than these."""
    if not isinstance(makings, dict) or not all([is_name(name) for name in makings]):
        raise InvalidOperation("the makings are not a dict from names")
    if not all([making in MAKINGS for making in makings.values()]):
        raise InvalidOperation("a making is not one")
    if letters not in MAKINGS:
        raise InvalidOperation("the letters are not a making")
    return _shared(makings, letters)


def _shared(makings, letters):
    return tuple([name for name in sorted(makings) if is_within(makings[name], letters)])


def _conflicting(problem):
    """Return a dict that tells for all letters but all three whether rows that agree on just these conflict."""
    rules = small_rules(problem)
    return {letters: breaks(rules, tuple(letters)) for letters in MAKINGS if letters != ALL_LETTERS}


def _translates(rules, conflicting, makings):
    """Return whether rows that are made so conflict by the rules exactly where it is told."""
    for letters in conflicting:
        if breaks(rules, _shared(makings, letters)) != conflicting[letters]:
            return False
    return True


def is_witness(rules, value):
    """Return whether the value is a witness of the rules."""
    check_rules(rules)
    if not isinstance(value, tuple) or len(value) != 3 or value[0] != "witness" or value[1] not in PROBLEMS:
        return False
    return _are_makings(rules, value[2]) and _translates(rules, _conflicting(value[1]), value[2])


def _are_makings(rules, value):
    """Return whether the value is a dict from all columns of the rules to makings."""
    if not isinstance(value, dict) or len(value) != len(rules.columns) or not is_within(value, rules.columns):
        return False
    return all([making in MAKINGS for making in value.values()])


def witness(rules):
    """Return a witness of the rules, or None if they have a chain."""
    left = rest(rules)
    found = triggers(left)
    if len(found) == 0:
        return None
    struck = less(rules.columns, left.columns)
    if len(found) == 2:
        problem, sides = _two_sides(left, found[0], found[1])
    else:
        problem, sides = ("triangles", _three_sides(found[0], found[1], found[2]))
    return ("witness", problem, {name: _making(name, [(struck, "")] + sides) for name in rules.columns})


def _making(name, sides):
    """Return the making that stands beside the first columns among which the name is."""
    for columns, making in sides:
        if name in columns:
            return making
    return ALL_LETTERS


def _common(some, others):
    return tuple([name for name in some if name in others])


def _three_sides(first, second, third):
    """Return the makings of the columns of three triggers, by which these are those of ab, of ac and of bc."""
    return [
        (_common(_common(first, second), third), ""),
        (_common(first, second), "a"), (_common(first, third), "b"), (_common(second, third), "c"),
        (first, "ab"), (second, "ac"), (third, "bc"),
    ]


def _two_sides(rules, first, second):
    """Return the problem that two triggers without common columns contain, with the makings of columns."""
    beyond = less(reached(rules.plain, first), first)
    other = less(reached(rules.plain, second), second)
    leads = len(_common(beyond, second)) > 0
    back = len(_common(other, first)) > 0
    alone = less(first, other)
    if not leads and not back:
        sides = [(first, "a"), (second, "b"), (_common(beyond, other), "c"), (beyond, "ac"), (other, "bc")]
        return ("labels", sides)
    if not back:
        return ("row", [(first, "a"), (second, "b"), (other, "bc")])
    if leads and len(alone) > 0:
        return ("turn", [(alone, "a"), (first, "b"), (second, "c"), (other, "bc")])
    # Their closures are not the same, or a pair would be possible: so it is told with the two exchanged.
    return _two_sides(rules, second, first)


def witnesses(rules, *, problem=None):
    """Yield all witnesses, or those of one problem."""
    check_rules(rules)
    if problem is not None:
        _check_problem(problem)
    if len(rules.columns) > MOST_COLUMNS:
        raise TooMany(MOST_COLUMNS)
    problems = PROBLEMS if problem is None else (problem,)
    for one in problems:
        conflicting = _conflicting(one)
        for chosen in _all_makings(len(rules.columns)):
            makings = dict(zip(rules.columns, chosen))
            if _translates(rules, conflicting, makings):
                yield ("witness", one, makings)


def _all_makings(many):
    """Return all tuples of so many makings, ascending."""
    found = [()]
    for _ in range(many):
        found = [chosen + (making,) for chosen in found for making in MAKINGS]
    return found


def order_paper(rules):
    """Return a chain of the rules, or a witness that there is none, as an order paper."""
    found = chain(rules)
    return witness(rules) if found is None else ("chain", found)


def is_order_paper(rules, value):
    """Return whether the value is an order paper of the rules."""
    if isinstance(value, tuple) and len(value) == 2 and value[0] == "chain":
        return is_chain(rules, value[1])
    return is_witness(rules, value)


def check_chained(rules):
    """Raise Chainless if the rules have no chain."""
    if chain(rules) is None:
        raise Chainless(witness(rules))
