"""Searches that go through all there is, so that the tests know what the package must find."""

import itertools
import random

from mostkept.base.scales import Scale
from mostkept.rules.rules import Rules
from mostkept.tables.tables import Table

SCALES = (Scale.sums(), Scale.classes(2), Scale.odds())


def all_sets(columns):
    return [some for many in range(len(columns) + 1) for some in itertools.combinations(columns, many)]


def all_rules(columns):
    return [(left, right) for left in all_sets(columns) for right in all_sets(columns) if right]


def holds(rules, some):
    """Return whether these columns are closed."""
    return all(not set(left) <= set(some) or set(right) <= set(some) for left, right in rules.rules)


def led(rules, some):
    """Return the closure of these columns: the least closed set that has them."""
    return next(one for one in all_sets(rules.columns) if set(some) <= set(one) and holds(rules, one))


def least_open(rules):
    """Return the triggers."""
    open_sets = [some for some in all_sets(rules.columns) if not holds(rules, some)]
    return tuple(sorted(one for one in open_sets if not any(set(other) < set(one) for other in open_sets)))


def clash(rules, row, other):
    """Return whether two rows conflict."""
    return not holds(rules, tuple(name for name, one, two in zip(rules.columns, row, other) if one == two))


def all_keeps(table, rules):
    pairs = {(one, two) for one, two in itertools.combinations(range(len(table)), 2)
             if clash(rules, table[one], table[two])}
    return sorted(keep for keep in all_sets(range(len(table)))
                  if not any(pair in pairs for pair in itertools.combinations(keep, 2)))


def lost(table, keep):
    return table.scale.plus(*[table.weight(at) for at in range(len(table)) if at not in keep])


def small_rules():
    """Return rules of all kinds over up to three columns."""
    names = ("a", "b", "c")
    lone = [(left, (name,)) for name in names for left in all_sets(names) if name not in left]
    found = [Rules(())]
    for columns in (("a",), ("a", "b")):
        found += [Rules(columns, *some) for many in (0, 1, 2) for some in itertools.combinations(all_rules(columns), many)]
    return found + [Rules(names, *some) for many in (0, 1, 2, 3) for some in itertools.combinations(lone, many)]


def some_rules(columns, most, many, seed):
    """Return so many rules over these columns, each with at most so many rules, always the same ones."""
    chance = random.Random(seed)
    rules = all_rules(columns)
    return [Rules(columns, *chance.sample(rules, chance.randint(0, min(most, len(rules))))) for _ in range(many)]


def some_weight(chance, scale):
    if scale.word == "sums":
        return chance.randint(1, 5)
    if scale.word == "odds":
        return chance.choice([(2, 1), (3, 1), (3, 2), (5, 3), (10, 1), (9, 8)])
    return chance.choice([(0, 1), (1, 0), (0, 3), (2, 1), (1, 5)])


def some_table(columns, rows, values, scale, seed):
    """Return a table with so many rows of so many different values, always the same one."""
    chance = random.Random(seed)
    found = [tuple(chance.randint(1, values) for _ in columns) for _ in range(rows)]
    return Table(columns, *found, scale=scale, weights=tuple(some_weight(chance, scale) for _ in range(rows)))


def all_steps(rules):
    """Return the steps by the words of [0.13]."""
    found = [("fixed", name) for name in led(rules, ()) if not holds(rules, ())]
    open_sets = least_open(rules)
    found += [("common", name) for name in rules.columns if open_sets and all(name in one for one in open_sets)]
    if len(open_sets) == 2 and led(rules, open_sets[0]) == led(rules, open_sets[1]):
        found.append(("pair", *open_sets))
    return tuple(sorted(found))


def struck_by(step):
    return set(step[1] + step[2]) if step[0] == "pair" else {step[1]}


def all_walks(rules):
    """Return all sequences of steps that cannot be continued, each with the rules behind it."""
    steps = all_steps(rules)
    if not steps:
        return [((), rules)]
    return [((step,) + walk, end) for step in steps for walk, end in all_walks(rules.struck(*struck_by(step)))]


def all_closed(rules):
    return all(holds(rules, some) for some in all_sets(rules.columns))


def all_chains(rules):
    return sorted(walk for walk, end in all_walks(rules) if all_closed(end))


SMALL = {
    "labels": [("a", "c"), ("b", "c")], "row": [("a", "b"), ("b", "c")], "turn": [("ab", "c"), ("c", "b")],
    "triangles": [("ab", "c"), ("ac", "b"), ("bc", "a")],
}
MAKINGS = ["", "a", "ab", "abc", "ac", "b", "bc", "c"]


def translates(rules, problem, makings):
    """Return whether the makings, in the order of the columns, are a witness by the words of [0.14]."""
    for letters in set(MAKINGS) - {"abc"}:
        closed = all(not set(left) <= set(letters) or right in letters for left, right in SMALL[problem])
        some = tuple(name for name, making in zip(rules.columns, makings) if set(making) <= set(letters))
        if holds(rules, some) != closed:
            return False
    return True


def all_witnesses(rules):
    return [("witness", problem, dict(zip(rules.columns, makings))) for problem in ("labels", "row", "turn", "triangles")
            for makings in itertools.product(MAKINGS, repeat=len(rules.columns)) if translates(rules, problem, makings)]


def all_matchings(worths):
    return sorted(some for some in all_sets(sorted(worths))
                  if len({left for left, _ in some}) == len({right for _, right in some}) == len(some))


def some_worths(chance, scale, lefts, rights, most):
    """Return worths between at most so many keys, with at most so many pairs."""
    pairs = [((left,), (right, right)) for left in range(lefts) for right in range(rights)]
    return {pair: some_weight(chance, scale) for pair in chance.sample(pairs, min(most, len(pairs)))}
