"""[14.1] to [14.3] and the module mostkept.hard.translations, with [0.14] and [9.1]."""

import copy
import itertools
import random
import unittest

from mostkept.base.scales import Scale
from mostkept.errors import InvalidKeep, InvalidOperation, InvalidRules, InvalidTable, TooMany, UnknownName
from mostkept.hard.halves import exact_keep
from mostkept.hard.translations import agreeing, answered, choices_of, first_greatest, is_choices, translated, triangle_table
from mostkept.orders.witnesses import PROBLEMS, small_rules, witness, witnesses
from mostkept.rules.rules import Rules
from mostkept.tables.conflicts import conflicts, is_keep
from mostkept.tables.tables import Table
from tests.helper import KNOWN, PLACES, PLAN, STOCK, TALKS, Case, otherwise, plain, values
from tests.search import SCALES, SMALL, all_keeps, lost, some_rules, some_table

EXAMPLES = """
>>> made = ("witness", "labels", {"item": "a", "place": "c", "team": "b"})
>>> small = Table(("a", "b", "c"), (1, 1, 1), (1, 2, 2), (2, 1, 2))
>>> [translated(PLACES, made, small)[2], choices_of("labels", small, (1, 2)), first_greatest("labels", small)]
[(1, 1, 0), ({(1,): 2, (2,): 2}, {(1,): 2, (2,): 2}), (1, 2)]
"""
ABC, ABCD = ("a", "b", "c"), ("a", "b", "c", "d")
MADE = ("witness", "labels", {"item": "a", "place": "c", "team": "b"})
SMALL_TABLE = Table(ABC, (1, 1, 1), (1, 2, 2), (2, 1, 2))


def hard_rules():
    """Return rules without a chain, some of them behind steps, each with witnesses."""
    found = [(small_rules(problem), list(witnesses(small_rules(problem), problem=problem))[:3]) for problem in PROBLEMS]
    found += [(rules, list(witnesses(rules))[::7][:3]) for rules in some_rules(ABCD, 4, 60, 3) if witness(rules) is not None]
    # A step strikes the column d, by which no two rows of the translated table differ.
    behind = Rules(ABCD, (("a", "d"), ("c",)), (("b", "d"), ("c",)))
    wide = Rules(tuple("abcdefgh"), (("a", "h"), ("b", "c")), (("c", "h"), ("b", "d")), ((), ("g",)), (("e", "f", "h"), ("a",)))
    return found + [(behind, list(witnesses(behind))), (wide, [witness(wide)])]


def small_tables(many):
    return [some_table(ABC, number % 8, 2 + number % 2, SCALES[number % 3], number) for number in range(many)]


class TranslatedTest(Case):

    def test_examples(self):
        self.examples(EXAMPLES, {**globals(), **KNOWN})

    def test_translated_tables_have_the_keeps_of_the_small_one(self):
        problems = []
        for rules, made in hard_rules():
            for one in made:
                problems.append(one[1])
                for small in small_tables(9):
                    table = translated(rules, one, small)
                    self.assertEqual((table.columns, len(table), table.weights, table.scale),
                                     (rules.columns, len(small), small.weights, small.scale))
                    self.assertEqual(list(conflicts(table, rules)), list(conflicts(small, small_rules(one[1]))))
                    self.assertEqual(all_keeps(table, rules), all_keeps(small, small_rules(one[1])))
        self.assertEqual(set(problems), set(PROBLEMS))

    def test_values_are_numbers_of_lesser_ones(self):
        for rules, made in hard_rules():
            for small in small_tables(5):
                table = translated(rules, made[0], small)
                for name in rules.columns:
                    letters = made[0][2][name]
                    tuples = [tuple(row[ABC.index(letter)] for letter in letters) for row in small.rows]
                    wanted = [len({other for other in tuples if other < one}) for one in tuples]
                    self.assertEqual([row[rules.columns.index(name)] for row in table.rows], wanted)

    def test_by_hand(self):
        small = Table(ABC, (5, -1, 10 ** 30), (5, 7, 3), (-9, 7, 3), (5, -1, 10 ** 30), scale=Scale.odds(), weights=((3, 1),) * 4)
        table = translated(PLACES, MADE, small)
        self.assertEqual(table.rows, ((1, 1, 0), (1, 0, 1), (0, 0, 1), (1, 1, 0)))
        self.assertEqual((table.scale, table.weights), (Scale.odds(), ((3, 1),) * 4))
        behind = Rules(ABCD, (("a", "d"), ("c",)), (("b", "d"), ("c",)))
        made = ("witness", "labels", {"a": "a", "b": "b", "c": "c", "d": ""})
        self.assertEqual(translated(behind, made, small).rows, ((1, 0, 1, 0), (1, 1, 0, 0), (0, 1, 0, 0), (1, 0, 1, 0)))
        pairs = ("witness", "labels", {"item": "ab", "place": "c", "team": "b"})
        self.raises(InvalidOperation, lambda: translated(PLACES, pairs, small))
        self.assertEqual(len(translated(PLACES, MADE, small.only())), 0)

    def test_two_hundred_rows(self):
        small = some_table(ABC, 200, 9, SCALES[1], 4)
        table = translated(PLACES, MADE, small)
        self.assertEqual(list(conflicts(table, PLACES)), list(conflicts(small, small_rules("labels"))))

    def test_makings_of_two_letters(self):
        triangles = Rules(ABC, (("a", "b"), ("c",)), (("a", "c"), ("b",)), (("b", "c"), ("a",)))
        found = list(witnesses(triangles, problem="triangles"))
        self.assertIn(("witness", "triangles", {"a": "a", "b": "b", "c": "c"}), found)
        small = Table(ABC, (2, 1, 1), (1, 2, 1), (1, 1, 2))
        rules = Rules(ABC, ((), ("a",)), ((), ("b", "c")))
        self.raises(InvalidOperation, lambda: translated(rules, found[0], small))
        lines = Rules(("x", "y", "z"), (("x",), ("y", "z")), (("y",), ("x", "z")), (("z",), ("x", "y")))
        made = witness(lines)
        self.assertEqual(made, ("witness", "triangles", {"x": "ab", "y": "ac", "z": "bc"}))
        self.assertEqual(translated(lines, made, small).rows, ((2, 2, 0), (1, 0, 2), (0, 1, 1)))


class ChoicesTest(Case):

    def right_choices(self, problem, value):
        """Return whether the value is choices by the words of [14.3]."""
        lefts = [left for left, _ in SMALL[problem]]
        if not isinstance(value, tuple) or len(value) != len(lefts):
            return False
        return all(isinstance(one, dict) and all(
            isinstance(key, tuple) and plain(key) and all(isinstance(at, int) for at in key) and len(key) == len(left)
            and type(to) is int for key, to in one.items()) for one, left in zip(value, lefts))

    def test_choices_of_keeps(self):
        for problem in PROBLEMS:
            rules = SMALL[problem]
            for small in small_tables(24):
                found = all_keeps(small, small_rules(problem))
                for keep in found:
                    choices = choices_of(problem, small, keep)
                    wanted = []
                    for left, right in rules:
                        sides = {tuple(small[at][ABC.index(name)] for name in left): small[at][ABC.index(right)] for at in keep}
                        wanted.append(dict(sorted(sides.items())))
                    self.assertEqual([list(one.items()) for one in choices], [list(one.items()) for one in wanted])
                    self.assertIs(is_choices(problem, choices), True)
                    rows = agreeing(problem, small, choices)
                    self.assertIn(rows, found)
                    self.assertLessEqual(set(keep), set(rows))
                    if not any(set(keep) < set(other) for other in found):
                        self.assertEqual(rows, keep)

    def test_any_choices(self):
        chance = random.Random(5)
        for problem in PROBLEMS:
            for small in small_tables(24):
                choices = tuple({key: chance.randint(1, 3) for key in itertools.product(range(1, 4), repeat=len(left))
                                 if chance.random() < 0.7} for left, _ in SMALL[problem])
                wanted = tuple(at for at, row in enumerate(small.rows) if all(
                    one.get(tuple(row[ABC.index(name)] for name in left)) == row[ABC.index(right)]
                    for one, (left, right) in zip(choices, SMALL[problem])))
                self.assertEqual(agreeing(problem, small, choices), wanted)
                self.assertIn(wanted, all_keeps(small, small_rules(problem)))
                self.assertIs(is_choices(problem, choices), True)

    def test_choices_of_keeps_that_are_not_full(self):
        small = Table(ABC, (1, 1, 1), (1, 2, 1), (2, 1, 1), (1, 1, 1))
        self.assertEqual(agreeing("labels", small, choices_of("labels", small, (0,))), (0, 3))
        self.assertEqual(agreeing("labels", small, choices_of("labels", small, (1, 2))), (0, 1, 2, 3))
        self.assertEqual(agreeing("labels", small, ({}, {})), ())
        self.assertEqual(choices_of("turn", small, ()), ({}, {}))
        self.assertEqual(choices_of("triangles", small, (1,)), ({(1, 2): 1}, {(1, 1): 2}, {(2, 1): 1}))
        self.assertEqual(choices_of("row", small, (2,)), ({(2,): 1}, {(1,): 1}))
        self.assertEqual(choices_of("turn", small, (1,)), ({(1, 2): 1}, {(1,): 2}))

    def test_values_that_are_choices(self):
        right = ({(1,): 2, (-2,): 2}, {(1,): 0})
        for problem in PROBLEMS:
            self.accepts(lambda value: is_choices(problem, value), [one for one in [right, ({}, {}), ({}, {}, {})]
                                                                     if self.right_choices(problem, one)],
                         [right, ({}, {}), ({}, {}, {}), ({},), [{}, {}]])
        wide = ({(1, 2): 3}, {(3, 1): 2}, {(2, 3): 1})
        for problem, choices in (("labels", right), ("row", right), ("turn", ({(1, 2): 3}, {(3,): 2})), ("triangles", wide)):
            self.assertIs(is_choices(problem, choices), True)
            for wrong in otherwise(choices):
                self.assertIs(is_choices(problem, wrong), self.right_choices(problem, wrong))
            for problem_too in PROBLEMS:
                self.assertIs(is_choices(problem_too, choices), self.right_choices(problem_too, choices))


class AnsweredTest(Case):

    def test_servers_that_return_keeps(self):
        for rules, made in hard_rules():
            for small in small_tables(4):
                asked = []

                def server(table, given):
                    asked.append((table, given))
                    return exact_keep(table, given)

                choices = answered(rules, made[0], small, server)
                table = translated(rules, made[0], small)
                self.assertEqual(asked, [(table, rules)])
                keep = exact_keep(table, rules)
                self.assertEqual(choices, choices_of(made[0][1], small, keep))
                # A greatest keep of the translated table answers the small problem.
                losses = [lost(small, one) for one in all_keeps(small, small_rules(made[0][1]))]
                self.assertEqual(lost(small, agreeing(made[0][1], small, choices)), small.scale.least(*losses))

    def test_servers_that_return_no_keep(self):
        self.refuses(InvalidKeep, lambda value: answered(PLACES, MADE, SMALL_TABLE, lambda table, rules: value),
                     [(), (0,), (1,), (2,), (1, 2)], more=[(0, 2), (0, 1), (3,), [1, 2]])
        self.assertEqual(answered(PLACES, MADE, SMALL_TABLE, lambda table, rules: ()), ({}, {}))
        self.assertEqual(answered(PLACES, MADE, SMALL_TABLE, lambda *given: (1,)), ({(1,): 2}, {(2,): 2}))

    def test_servers_that_raise(self):
        class Own(Exception):
            pass

        def fails(table, rules):
            raise Own(table, rules)

        with self.assertRaises(Own) as caught:
            answered(PLACES, MADE, SMALL_TABLE, fails)
        self.assertEqual(caught.exception.args, (translated(PLACES, MADE, SMALL_TABLE), PLACES))
        for wrong, error in (((None, MADE, SMALL_TABLE), InvalidRules), ((PLACES, None, SMALL_TABLE), InvalidOperation),
                             ((PLACES, MADE, STOCK), InvalidTable)):
            self.raises(error, lambda: answered(*wrong, fails))


class TriangleTest(Case):

    def test_triangles(self):
        chance = random.Random(8)
        for size in (0, 1, 4, 6):
            sides = [tuple(sorted({(chance.randint(0, 3), chance.randint(0, 3)) for _ in range(size * 2)})) for _ in range(3)]
            table = triangle_table(*sides)
            wanted = tuple((a, b, c) for a, b, c in itertools.product(range(4), repeat=3)
                           if (a, b) in sides[0] and (a, c) in sides[1] and (b, c) in sides[2])
            self.assertEqual(table, Table(ABC, *wanted))
            self.assertEqual((table.scale, set(table.weights) | {1}), (Scale.sums(), {1}))
        self.assertEqual(triangle_table(((1, 2),), ((1, 3),), ((2, 3),)).rows, ((1, 2, 3),))
        self.assertEqual(triangle_table(((1, 2),), ((1, 3),), ((3, 2),)).rows, ())
        self.assertEqual(len(triangle_table((), (), ())), 0)

    def test_many_triangles(self):
        squares = tuple(itertools.product(range(7), repeat=2))
        self.raises(TooMany, lambda: triangle_table(squares, squares, squares), limit=200)
        some = tuple(itertools.product(range(5), range(8)))
        other = tuple(itertools.product(range(5), range(5)))
        self.assertEqual(len(triangle_table(other, some, some)), 200)
        self.raises(TooMany, lambda: triangle_table(other + ((5, 0),), some + ((5, 0),), some), limit=200)
        sixty = tuple((at, at) for at in range(60))
        self.assertEqual(len(triangle_table(sixty, sixty, sixty)), 60)
        more = sixty + ((60, 60),)
        for sides in ((more, sixty, sixty), (sixty, more, sixty), (sixty, sixty, more), (squares[::-1], squares, squares)):
            self.raises(InvalidOperation, lambda: triangle_table(*sides))

    def test_wrong_sides(self):
        right = [(), ((1, 1),), ((1, 2),)]
        more = [((1, 2),), [(1, 2)], ((1, 2, 3),), ((1, 2), (1, 2)), ((1, 2), (0, 3)), ((1, True),), ((1,),), ((1, "2"),), ([1, 2],)]
        for call in (lambda value: triangle_table(value, (), ()), lambda value: triangle_table((), value, ()),
                     lambda value: triangle_table((), (), value)):
            self.refuses(InvalidOperation, call, right, more=more)


class FirstTest(Case):

    def test_by_search(self):
        for problem in PROBLEMS:
            for small in small_tables(30):
                for table in (small, Table.of(small.columns, small.rows, scale=small.scale)):
                    found = all_keeps(table, small_rules(problem))
                    least = table.scale.least(*[lost(table, keep) for keep in found])
                    wanted = next(keep for keep in found if lost(table, keep) == least)
                    self.assertEqual(first_greatest(problem, table), wanted)

    def test_sixteen_rows(self):
        for problem in PROBLEMS:
            for scale in SCALES:
                table = some_table(ABC, 16, 3, scale, 11)
                keep = first_greatest(problem, table)
                self.assertIs(is_keep(table, small_rules(problem), keep), True)
                exact = exact_keep(table, small_rules(problem))
                self.assertEqual(lost(table, keep), lost(table, exact))
                self.assertLessEqual(keep, exact)
                longer = table | table.only(0)
                self.raises(TooMany, lambda: first_greatest(problem, longer), limit=16)
        free = Table(ABC, *[(at, at, at) for at in range(16)])
        self.assertEqual(first_greatest("turn", free), tuple(range(16)))


class WrongTest(Case):

    def test_wrong_rules_witnesses_and_small_tables(self):
        for call in (translated, lambda *given: answered(*given, None)):
            for value in values():
                if not isinstance(value, Rules):
                    self.raises(InvalidRules, lambda: call(value, None, None))
                self.raises(InvalidOperation, lambda: call(PLACES, value, None))
                self.raises(InvalidTable, lambda: call(PLACES, MADE, value))
            for wrong in otherwise(MADE):
                self.raises(InvalidOperation, lambda: call(PLACES, wrong, SMALL_TABLE))
            self.raises(InvalidOperation, lambda: call(TALKS, MADE, SMALL_TABLE))
            self.raises(InvalidTable, lambda: call(PLACES, MADE, Table(ABCD)))
            self.raises(InvalidTable, lambda: call(PLACES, MADE, Table(("a", "b"))))

    def test_wrong_problems(self):
        for call in (lambda value: is_choices(value, None), lambda value: choices_of(value, None, None),
                     lambda value: agreeing(value, None, None), lambda value: first_greatest(value, None)):
            self.refuses(UnknownName, call, keeps="name", more=["Labels", "labels ", ["labels"]])
        for problem in PROBLEMS:
            for call in (choices_of, agreeing, lambda problem, small, _: first_greatest(problem, small)):
                self.refuses(InvalidTable, lambda value: call(problem, value, None), more=[Table(("a", "b")), Table(ABCD), PLAN])
            self.refuses(InvalidOperation, lambda value: agreeing(problem, SMALL_TABLE, value), more=[({},), [{}, {}]])
        self.refuses(InvalidKeep, lambda value: choices_of("labels", SMALL_TABLE, value), [(), (0,), (1,), (2,), (1, 2)],
                     more=[(0, 1), (0, 2), [1, 2], (3,), (2, 1)])

    def test_nothing_changes(self):
        made, small, rules = copy.deepcopy(MADE), copy.deepcopy(SMALL_TABLE), copy.deepcopy(PLACES)
        choices = choices_of("labels", small, (1, 2))
        held = copy.deepcopy(choices)
        translated(rules, made, small), agreeing("labels", small, choices), first_greatest("row", small)
        answered(rules, made, small, lambda table, given: (0,))
        self.assertEqual((made, small, rules, choices), (MADE, SMALL_TABLE, PLACES, held))
        choices[0].clear()
        self.assertEqual(choices_of("labels", small, (1, 2)), held)


if __name__ == "__main__":
    unittest.main()
