"""[1.1], [1.2] and the module mostkept.base.rows, with [0.8]."""

import itertools
import unittest

from mostkept.base.rows import agreement, groups, is_columns, is_name, is_row, pairs, values_at
from mostkept.errors import InvalidColumns, InvalidNumber, InvalidTable
from tests.helper import FORTY, NAMES, PLAN_ROWS, Case, plan, values

EXAMPLES = """
>>> names = ("hour", "room", "talk")
>>> [values_at(names, (1, 2, 6), ("hour", "talk")), agreement(names, (1, 1, 6), (1, 2, 6))]
[(1, 6), ('hour', 'talk')]
>>> [groups(names, PLAN.rows, ("hour", "room")), list(pairs(names, PLAN.rows, ("talk",)))]
[{(1, 1): (0, 1), (1, 2): (2,), (2, 1): (3,)}, [(0, 3), (1, 2)]]
"""
EIGHT = tuple("abcdefgh")
# Of the values of the helper those that are columns, rows of the columns hour, room, talk, and so on.
COLUMNS = [(), ("a",), ("b",), ("hour",), ("talk",), ("a", "b"), ("hour", "talk"), NAMES, EIGHT]
SOME = [(), ("hour",), ("talk",), ("hour", "talk"), NAMES]
ROWS = [(1, 1, 1), (1, 1, 5)]
TUPLES = [(), ((1, 1, 5),), PLAN_ROWS]


def zeros(columns):
    return (0,) * len(columns) if isinstance(columns, tuple) else ()


def first(found):
    for one in found:
        return one
    return None


class NamesTest(Case):

    def test_examples(self):
        self.examples(EXAMPLES, {**globals(), "PLAN": plan()})

    def test_names(self):
        self.accepts(is_name, ["a", "b", "hour", "room", "self", "eightabc"])
        for name in ("z", "aaaaaaaa", "zzzzzzzz", "values", "class"):
            self.assertIs(is_name(name), True)
        for name in ("aaaaaaaaa", "A", "aB", "a_b", "a1", "1", " ", "a ", "`", "{", "\u00e4", "\u00aa"):
            self.assertIs(is_name(name), False)

    def test_columns(self):
        self.accepts(is_columns, COLUMNS)
        self.assertIs(is_columns(("a", "ab", "b", "ba")), True)
        self.assertIs(is_columns(("a", "b", "b")), False)
        self.assertIs(is_columns(("b", "a", "c")), False)
        self.assertIs(is_columns(("a", "c", "b")), False)

    def test_columns_with_at_least_so_many(self):
        for least in range(9):
            self.accepts(lambda value: is_columns(value, least=least), [one for one in COLUMNS if len(one) >= least])

    def test_least_is_from_zero_to_eight(self):
        self.refuses(InvalidNumber, lambda value: is_columns(("a",), least=value),
                     [0, 1, 2, 3, 4, 5, 8], keeps="value")
        for value in values():
            self.raises(InvalidNumber, lambda: is_columns(value, least=9), value=9)
            self.raises(InvalidNumber, lambda: is_columns(value, least=True), value=True)
            self.raises(InvalidNumber, lambda: is_columns(value, least=None), value=None)

    def test_rows(self):
        self.accepts(lambda value: is_row(NAMES, value), ROWS)
        self.accepts(lambda value: is_row((), value), [()])
        self.accepts(lambda value: is_row(("a",), value), [(0,), (1,), (2,), (-1,)])
        self.assertIs(is_row(EIGHT, (0,) * 8), True)
        self.assertIs(is_row(EIGHT, (0,) * 7), False)
        self.assertIs(is_row(EIGHT, (0,) * 9), False)
        self.assertIs(is_row(EIGHT, (0,) * 7 + (False,)), False)
        self.assertIs(is_row(("a", "b"), (FORTY, -FORTY)), True)
        self.assertIs(is_row(("a",), (10 ** 40,)), True)

    def test_rows_have_columns(self):
        self.refuses(InvalidColumns, lambda value: is_row(value, ()), COLUMNS)


class ValuesTest(Case):

    def test_values_stand_in_the_order_of_the_columns(self):
        self.assertEqual(values_at(NAMES, (7, 8, 9), ()), ())
        self.assertEqual(values_at(NAMES, (7, 8, 9), ("room",)), (8,))
        self.assertEqual(values_at(NAMES, (7, 8, 9), ("room", "talk")), (8, 9))
        self.assertEqual(values_at(NAMES, (7, 8, 9), NAMES), (7, 8, 9))
        self.assertEqual(values_at((), (), ()), ())
        self.assertEqual(values_at(EIGHT, (8, 7, 6, 5, 4, 3, 2, 1), ("b", "h")), (7, 1))

    def test_rows_agree_exactly_where_their_values_are_equal(self):
        for row, other in itertools.product(itertools.product((0, 1), repeat=3), repeat=2):
            agreed = agreement(NAMES, row, other)
            self.assertIs(is_columns(agreed), True)
            for many in range(4):
                for some in itertools.combinations(NAMES, many):
                    equal = values_at(NAMES, row, some) == values_at(NAMES, other, some)
                    self.assertEqual(equal, all(name in agreed for name in some))

    def test_agreement(self):
        self.assertEqual(agreement((), (), ()), ())
        self.assertEqual(agreement(NAMES, (1, 2, 3), (2, 3, 1)), ())
        self.assertEqual(agreement(NAMES, (1, 2, 3), (1, 2, 3)), NAMES)
        self.assertEqual(agreement(("a", "b"), (FORTY, -FORTY), (FORTY, FORTY)), ("a",))
        self.assertEqual(agreement(("a", "b"), (10 ** 60, 0), (10 ** 60, 1)), ("a",))
        self.assertEqual(agreement(EIGHT, tuple(range(8)), (0, 1, 2, 3, 9, 5, 6, 7)), tuple("abcdfgh"))

    def test_wrong_arguments(self):
        self.refuses(InvalidColumns, lambda value: values_at(value, zeros(value), ()), COLUMNS)
        self.refuses(InvalidTable, lambda value: values_at(NAMES, value, ("hour",)), ROWS)
        self.refuses(InvalidColumns, lambda value: values_at(NAMES, (1, 2, 3), value), SOME)
        self.refuses(InvalidColumns, lambda value: agreement(value, zeros(value), zeros(value)), COLUMNS)
        self.refuses(InvalidTable, lambda value: agreement(NAMES, value, (1, 2, 3)), ROWS)
        self.refuses(InvalidTable, lambda value: agreement(NAMES, (1, 2, 3), value), ROWS)

    def test_two_wrong_arguments(self):
        self.raises(InvalidColumns, lambda: values_at(("b", "a"), None, None))
        self.raises(InvalidTable, lambda: values_at(NAMES, [1, 2, 3], ["hour"]))
        self.raises(InvalidColumns, lambda: agreement(list(NAMES), None, None))
        self.raises(InvalidColumns, lambda: is_row(NAMES[::-1], None))


class GroupsTest(Case):

    def test_groups(self):
        self.assertEqual(groups(NAMES, (), ("hour",)), {})
        self.assertEqual(groups(NAMES, (), ()), {})
        self.assertEqual(groups(NAMES, PLAN_ROWS, ()), {(): (0, 1, 2, 3)})
        self.assertEqual(groups((), ((), ()), ()), {(): (0, 1)})
        self.assertEqual(groups(("a", "b"), ((1, 2), (1, 2), (3, 2)), ("a", "b")), {(1, 2): (0, 1), (3, 2): (2,)})

    def test_keys_and_indices_are_ascending(self):
        rows = ((3, -1), (-2, 0), (10, 5), (-2, 7), (3, -5), (-10, 0), (10 ** 60, 0))
        found = groups(("a", "b"), rows, ("a",))
        self.assertEqual(list(found.items()), [((-10,), (5,)), ((-2,), (1, 3)), ((3,), (0, 4)), ((10,), (2,)),
                                               ((10 ** 60,), (6,))])
        found = groups(("a", "b"), rows, ("a", "b"))
        self.assertEqual(list(found), sorted(rows))

    def test_pairs(self):
        self.assertEqual(list(pairs(NAMES, (), ())), [])
        self.assertEqual(list(pairs((), ((), (), ()), ())), [(0, 1), (0, 2), (1, 2)])
        self.assertEqual(list(pairs(NAMES, PLAN_ROWS, ())), list(itertools.combinations(range(4), 2)))
        self.assertEqual(list(pairs(NAMES, PLAN_ROWS, ("hour", "room"))), [(0, 1)])
        self.assertEqual(list(pairs(NAMES, PLAN_ROWS, NAMES)), [])
        self.assertEqual(list(pairs(("a",), ((2,), (1,), (2,), (1,), (2,)), ("a",))), [(0, 2), (0, 4), (1, 3), (2, 4)])

    def test_pairs_are_those_that_agree(self):
        rows = tuple(itertools.product((0, 1), repeat=3)) * 2
        for many in range(4):
            for some in itertools.combinations(NAMES, many):
                expected = [(one, two) for one, two in itertools.combinations(range(16), 2)
                            if set(some) <= set(agreement(NAMES, rows[one], rows[two]))]
                self.assertEqual(list(pairs(NAMES, rows, some)), expected)

    def test_at_most_two_hundred_rows(self):
        rows = tuple([(index,) for index in range(200)])
        self.assertEqual(len(groups(("a",), rows, ("a",))), 200)
        self.assertEqual(groups(("a",), rows, ()), {(): tuple(range(200))})
        self.assertEqual(len(list(pairs(("a",), rows, ()))), 19900)
        self.raises(InvalidTable, lambda: groups(("a",), rows + ((0,),), ("a",)))
        self.raises(InvalidTable, lambda: next(pairs(("a",), rows + ((0,),), ("a",))))

    def test_eight_columns(self):
        rows = (tuple(range(8)), tuple(range(8)), (0,) * 8)
        self.assertEqual(groups(EIGHT, rows, EIGHT), {(0,) * 8: (2,), tuple(range(8)): (0, 1)})
        self.assertEqual(list(pairs(EIGHT, rows, EIGHT)), [(0, 1)])
        self.raises(InvalidColumns, lambda: groups(tuple("abcdefghi"), (), ()))

    def test_wrong_arguments(self):
        for call in (groups, lambda columns, rows, some: first(pairs(columns, rows, some))):
            self.refuses(InvalidColumns, lambda value: call(value, (), ()), COLUMNS)
            self.refuses(InvalidTable, lambda value: call(NAMES, value, ("hour",)), TUPLES)
            self.refuses(InvalidColumns, lambda value: call(NAMES, PLAN_ROWS, value), SOME)
            self.raises(InvalidColumns, lambda: call(None, None, None))
            self.raises(InvalidTable, lambda: call(NAMES, list(PLAN_ROWS), ["hour"]))
            self.raises(InvalidTable, lambda: call(NAMES, (*PLAN_ROWS, (1, 1)), ("day",)))

    def test_pairs_raises_when_its_first_result_is_asked_for(self):
        for found, error in ((pairs(None, (), ()), InvalidColumns), (pairs(NAMES, None, ()), InvalidTable),
                             (pairs(NAMES, (), None), InvalidColumns)):
            self.raises(error, lambda: next(found))

    def test_equal_calls_have_equal_results(self):
        found = groups(NAMES, PLAN_ROWS, ("talk",))
        found.clear()
        self.assertEqual(groups(NAMES, PLAN_ROWS, ("talk",)), {(5,): (0, 3), (6,): (1, 2)})


if __name__ == "__main__":
    unittest.main()
