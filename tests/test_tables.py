"""[3.1] and the module mostkept.tables.tables, with [0.10]."""

import copy
import itertools
import unittest

from mostkept.base.scales import Scale
from mostkept.errors import InvalidColumns, InvalidNumber, InvalidOperation, InvalidScale, InvalidTable, TooMany
from mostkept.errors import UnknownName
from mostkept.tables import tables
from mostkept.tables.tables import Table
from tests.helper import FORTY, NAMES, PLAN_ROWS, Case, exactly, plan, values

EXAMPLES = """
>>> PLAN = Table(("hour", "room", "talk"), (1, 1, 5), (1, 1, 6), (1, 2, 6), (2, 1, 5), weights=(3, 2, 2, 2))
>>> [PLAN.total, PLAN.agreement(0, 3), PLAN.grouped(("talk",)), list(PLAN.where(hour=1, room=1)), PLAN.only(2, 0).weights]
[9, ('room', 'talk'), {(5,): (0, 3), (6,): (1, 2)}, [0, 1], (3, 2)]
>>> [PLAN.renamed(hour="when").columns, PLAN.renamed(hour="when")[2], str(PLAN | PLAN)]
[('room', 'talk', 'when'), (2, 6, 1), 'table of 3 columns, 8 rows']
"""
EIGHT = tuple("abcdefgh")
FULL_ROWS = tuple([(index,) for index in range(200)])
SUMS, ODDS, PAIRS = Scale.sums(), Scale.odds(), Scale.classes(2)
# Of the values of the helper those that are right where the name says.
COLUMNS = [("a",), ("b",), ("hour",), ("talk",), ("a", "b"), ("hour", "talk"), NAMES, EIGHT]
SOME = [(), ("hour",), ("talk",), ("hour", "talk"), NAMES]
ROWS = [(1, 1, 1), (1, 1, 5)]
WEIGHTS = [1, 2, 3, 4, 5, 8, 9, 200, FORTY]
INDICES = [0, 1, 2, 3]
TUPLES = [(), (0,), (1,), (2,), (0, 0), (1, 0), (0, 1), (1, 1), (2, 1), (1, 2), (1, 1, 1), (1, 1, 1, 1),
          (1, 1, 1, 1, 1), (0, 1, 2, 3)]
# Those that are tuples, but not of indices.
OTHER_TUPLES = [(-1,), (True,), (False,), (None,), ("1",), ((1,),), ([1],), (4, 2), (3, 4), (1, True), (2, True),
                (1, "a"), (1, None), (1, 1, 5)]


def full():
    return Table(("a",), *FULL_ROWS)


def by_odds():
    return Table(("a", "b"), (1, 2), (3, 4), (1, 2), scale=Scale.odds(), weights=((3, 1), (2, 1), (5, 2)))


def by_classes():
    return Table(("a", "b"), (1, 2), (3, 4), (-1, 2), scale=Scale.classes(2), weights=((0, 1), (2, 0), (5, 7)))


def state(table):
    scale = table.scale
    return (table.columns, table.rows, table.weights, scale.word, scale.size, table.total, len(table), str(table))


class TableTest(Case):

    def has(self, table, columns, rows, weights, scale=SUMS):
        """Check all of a table."""
        self.assertIs(table.__class__, Table)
        self.assertEqual((table.columns, table.rows, table.weights), (columns, rows, weights))
        self.assertEqual(table.scale, scale)
        self.assertEqual(table.total, scale.plus_all(weights))
        self.assertEqual(len(table), len(rows))

    def refuses_indices(self, call):
        """Check a method that takes a tuple of indices of the four rows of the plan."""
        for value in values():
            if exactly(value, TUPLES):
                call(value)
            elif isinstance(value, tuple):
                wrong = next(one for one in value if not exactly(one, INDICES))
                self.raises(InvalidNumber, lambda: call(value), value=wrong)
            else:
                self.raises(InvalidOperation, lambda: call(value))
        for value in OTHER_TUPLES:
            with self.assertRaises(InvalidNumber):
                call(value)
        self.raises(InvalidNumber, lambda: call((3, 4, -1)), value=4)
        self.raises(InvalidNumber, lambda: call((3, None, 4)), value=None)
        self.raises(InvalidNumber, lambda: call((0, True, 9)), value=True)


class CreationTest(TableTest):

    def test_examples(self):
        self.examples(EXAMPLES, globals())

    def test_constants(self):
        self.assertEqual((tables.MAX_ROWS, Table.MOST_ROWS, plan().MOST_ROWS), (200, 200, 200))

    def test_what_a_table_has(self):
        self.has(plan(), NAMES, PLAN_ROWS, (3, 2, 2, 2))
        self.has(by_odds(), ("a", "b"), ((1, 2), (3, 4), (1, 2)), ((3, 1), (2, 1), (5, 2)), ODDS)
        self.has(by_classes(), ("a", "b"), ((1, 2), (3, 4), (-1, 2)), ((0, 1), (2, 0), (5, 7)), PAIRS)
        self.assertEqual([one.total for one in (plan(), by_odds(), by_classes())], [9, (15, 1), (7, 8)])

    def test_weights_left_out_are_one(self):
        for scale in (SUMS, ODDS, *[Scale.classes(size) for size in (1, 2, 3, 4)]):
            for table in (Table(("a",), (1,), (2,), scale=scale), Table(("a",), (1,), (2,), scale=scale, weights=None),
                          Table.of(("a",), ((1,), (2,)), scale=scale)):
                self.has(table, ("a",), ((1,), (2,)), (scale.one, scale.one), scale)
        self.has(Table(("a",), (1,)), ("a",), ((1,),), (1,))
        self.has(Table(("a",), (1,), scale=None), ("a",), ((1,),), (1,))

    def test_tables_without_rows(self):
        self.has(Table(("a",)), ("a",), (), ())
        self.has(Table(("a",), scale=ODDS, weights=()), ("a",), (), (), ODDS)
        self.assertEqual([Table(("a",)).total, Table(("a",), scale=ODDS).total, Table(("a",), scale=PAIRS).total],
                         [0, (1, 1), (0, 0)])

    def test_of_takes_a_tuple_of_rows(self):
        self.assertEqual(Table.of(NAMES, PLAN_ROWS, weights=(3, 2, 2, 2)), plan())
        self.assertEqual(Table.of(("a",), (), scale=ODDS), Table(("a",), scale=ODDS))
        self.assertEqual(plan().of(("a",), ((4,),)), Table(("a",), (4,)))
        self.assertEqual(Table.of(weights=((1, 2),), scale=PAIRS, columns=("a",), rows=((1,),)).total, (1, 2))

    def test_one_and_eight_columns(self):
        self.has(Table(EIGHT, tuple(range(8)), (0,) * 8), EIGHT, (tuple(range(8)), (0,) * 8), (1, 1))
        self.raises(InvalidColumns, lambda: Table((*EIGHT, "i")))
        self.raises(InvalidColumns, lambda: Table(()))

    def test_long_integers_and_equal_rows(self):
        rows = ((FORTY, -FORTY), (FORTY, -FORTY), (10 ** 4000, 10 ** 5000))
        self.has(Table(("a", "b"), *rows), ("a", "b"), rows, (1, 1, 1))
        self.assertEqual(Table(("a",), (1,), (2,), weights=(FORTY, FORTY)).total, 2 * FORTY)
        self.raises(InvalidTable, lambda: Table(("a",), (1,), weights=(FORTY + 1,)))

    def test_two_hundred_rows(self):
        self.has(full(), ("a",), FULL_ROWS, (1,) * 200)
        many = FULL_ROWS + ((0,),)
        self.raises(TooMany, lambda: Table(("a",), *many), limit=200)
        self.raises(TooMany, lambda: Table.of(("a",), many), limit=200)
        self.raises(TooMany, lambda: Table(("a",), *many, weights=(1,) * 201), limit=200)

    def test_wrong_arguments(self):
        for make in (Table, lambda columns, *rows, **more: Table.of(columns, rows, **more)):
            self.refuses(InvalidColumns, make, COLUMNS)
            self.refuses(InvalidTable, lambda value: make(NAMES, value), ROWS)
            self.refuses(InvalidTable, lambda value: make(NAMES, (1, 2, 3), value), ROWS)
            self.refuses(InvalidTable, lambda value: make(("a",), (1,), weights=(value,)), WEIGHTS)
            self.refuses(InvalidTable, lambda value: make(("a",), (1,), (2,), weights=value),
                         [None, (1, 1), (2, 1), (4, 2), (1, 2), (3, 4), (FORTY, 1)])
            self.refuses(InvalidTable, lambda value: make(("a",), weights=value), [None, ()])
            self.refuses(InvalidTable, lambda value: make(("a",), (1,), scale=ODDS, weights=(value,)), [(2, 1)])
            for value in values():
                if value is None or isinstance(value, Scale):
                    self.assertEqual(make(("a",), scale=value).scale, value or SUMS)
                else:
                    self.raises(InvalidScale, lambda: make(("a",), scale=value))
        self.refuses(InvalidTable, lambda value: Table.of(NAMES, value), [(), ((1, 1, 5),), PLAN_ROWS])

    def test_the_first_error_is_raised(self):
        many = FULL_ROWS + ((0,),)
        for make in (Table, lambda columns, *rows, **more: Table.of(columns, rows, **more)):
            self.raises(InvalidColumns, lambda: make(("b", "a"), [1], scale=3, weights=4))
            self.raises(InvalidTable, lambda: make(("a",), [1], scale=3, weights=4))
            self.raises(InvalidScale, lambda: make(("a",), (1,), weights=4, scale=3))
            self.raises(InvalidScale, lambda: make(("a",), *many, weights=4, scale=3))
            self.raises(InvalidTable, lambda: make(("a",), *many, weights=(1,)))
            self.raises(InvalidTable, lambda: make(("a",), *many, weights=(1,) * 200 + (0,)))
            self.raises(InvalidTable, lambda: make(("a",), *many, (1, 2)))
        self.raises(InvalidColumns, lambda: Table.of(["a"], [(1,)]))
        self.raises(InvalidColumns, lambda: Table.of((), []))
        self.raises(InvalidTable, lambda: Table.of(("a",), [(1,)], scale=3))

    def test_a_table_never_changes(self):
        table = plan()
        for name in ("columns", "rows", "weights", "scale", "total"):
            with self.assertRaises(AttributeError):
                setattr(table, name, ())
        with self.assertRaises(TypeError):
            table[0] = (1, 2, 3)
        self.assertEqual(state(table), state(plan()))


class ReadingTest(TableTest):

    def test_rows_and_weights_by_index(self):
        table = plan()
        self.assertEqual([table[index] for index in range(4)], list(PLAN_ROWS))
        self.assertEqual([table.weight(index) for index in range(4)], [3, 2, 2, 2])
        self.assertEqual([full()[199], full().weight(199)], [(199,), 1])
        self.refuses(InvalidNumber, lambda value: table[value], INDICES, keeps="value")
        self.refuses(InvalidNumber, table.weight, INDICES, keeps="value")
        for value in (4, -1, True, 10 ** 50):
            self.raises(InvalidNumber, lambda: table[value], value=value)
            self.raises(InvalidNumber, lambda: table.weight(value), value=value)
        self.raises(InvalidNumber, lambda: Table(("a",))[0], value=0)
        self.raises(InvalidNumber, lambda: full()[200], value=200)

    def test_agreement(self):
        table = plan()
        expected = {(0, 1): ("hour", "room"), (0, 2): ("hour",), (0, 3): ("room", "talk"), (1, 2): ("hour", "talk"),
                    (1, 3): ("room",), (2, 3): (), (2, 2): NAMES}
        for (one, other), columns in expected.items():
            self.assertEqual([table.agreement(one, other), table.agreement(other, one)], [columns, columns])
        self.refuses(InvalidNumber, lambda value: table.agreement(value, 0), INDICES, keeps="value")
        self.refuses(InvalidNumber, lambda value: table.agreement(0, value), INDICES, keeps="value")
        self.raises(InvalidNumber, lambda: table.agreement(7, None), value=7)

    def test_length_and_truth(self):
        self.assertEqual([len(Table(("a",))), len(plan()), len(full())], [0, 4, 200])
        self.assertEqual([bool(Table(("a",))), bool(Table(("a",), (0,))), bool(plan())], [False, True, True])

    def test_membership_accepts_every_value(self):
        for value in values():
            self.assertIs(value in plan(), exactly(value, [(1, 1, 5)]))
            self.assertIs(value in Table(("a",)), False)
        for row in PLAN_ROWS:
            self.assertIs(row in plan(), True)
            self.assertIs(list(row) in plan(), False)
            self.assertIs(row not in plan(), False)

    def test_equality(self):
        same = Table(NAMES, *PLAN_ROWS, weights=(3, 2, 2, 2), scale=Scale.sums())
        self.assertIs(plan() == same, True)
        self.assertIs(plan() != same, False)
        others = [
            Table(("hour", "room", "when"), *PLAN_ROWS, weights=(3, 2, 2, 2)), Table(NAMES, *PLAN_ROWS),
            Table(NAMES, *PLAN_ROWS[::-1], weights=(2, 2, 2, 3)), Table(NAMES, *PLAN_ROWS[:3], weights=(3, 2, 2)),
            Table(NAMES, *PLAN_ROWS[:3], (2, 1, 6), weights=(3, 2, 2, 2)), Table(NAMES),
        ]
        for other in others:
            self.assertIs(plan() == other, False)
            self.assertIs(plan() != other, True)
        empty = [Table(("a",), scale=scale) for scale in (SUMS, ODDS, Scale.classes(1), PAIRS)]
        for one, other in itertools.product(range(4), repeat=2):
            self.assertIs(empty[one] == empty[other], one == other)

    def test_equality_accepts_every_value(self):
        for value in values():
            if not isinstance(value, Table):
                self.assertIs(plan() == value, False)
                self.assertIs(plan() != value, True)

    def test_str(self):
        self.assertEqual([str(plan()), str(Table(("a",))), str(full())], [
            "table of 3 columns, 4 rows", "table of 1 columns, 0 rows", "table of 1 columns, 200 rows"])

    def test_amount_of(self):
        table = plan()
        for many in range(4):
            for some in itertools.product(range(4), repeat=many):
                expected = sum(table.weights[index] for index in set(some))
                self.assertEqual(table.amount_of(some), expected)
        self.assertEqual([by_odds().amount_of((2, 0, 2)), by_odds().amount_of(())], [(15, 2), (1, 1)])
        self.assertEqual([by_classes().amount_of((2, 0, 2)), by_classes().amount_of(())], [(5, 8), (0, 0)])

    def test_grouped(self):
        table = plan()
        self.assertEqual(table.grouped(()), {(): (0, 1, 2, 3)})
        self.assertEqual(table.grouped(("hour", "room")), {(1, 1): (0, 1), (1, 2): (2,), (2, 1): (3,)})
        self.assertEqual(table.grouped(NAMES), {row: (index,) for index, row in enumerate(PLAN_ROWS)})
        self.assertEqual([Table(("a",)).grouped(()), Table(("a",)).grouped(("a",))], [{}, {}])
        self.assertEqual(list(by_classes().grouped(("a",)).items()), [((-1,), (2,)), ((1,), (0,)), ((3,), (1,))])
        self.assertEqual(len(full().grouped(("a",))), 200)
        self.refuses(InvalidColumns, table.grouped, SOME)
        self.raises(InvalidColumns, lambda: table.grouped(("day",)))

    def test_where(self):
        table = plan()
        self.assertEqual(list(table.where()), [0, 1, 2, 3])
        self.assertEqual(list(table.where_by({})), [0, 1, 2, 3])
        for many in (1, 2, 3):
            for some in itertools.combinations(NAMES, many):
                for wanted in itertools.product((1, 2, 5, 6), repeat=many):
                    by = dict(zip(some, wanted))
                    expected = [index for index, row in enumerate(PLAN_ROWS)
                                if all(dict(zip(NAMES, row))[name] == value for name, value in by.items())]
                    self.assertEqual(list(table.where(**by)), expected)
                    self.assertEqual(list(table.where_by(by)), expected)
                    self.assertEqual(list(table.where_by(dict(reversed(list(by.items()))))), expected)
        self.assertEqual(list(Table(("a",), (FORTY,), (3,)).where(a=FORTY)), [0])
        self.assertEqual(list(Table(("self", "values"), (1, 2), (1, 3)).where_by({"self": 1, "values": 3})), [1])
        self.assertEqual(list(Table(("self", "values"), (1, 2), (1, 3)).where(values=2)), [0])
        self.assertEqual(list(Table(("a",)).where(a=1)), [])

    def test_wrong_values_for_where(self):
        table = plan()
        for value in values():
            if exactly(value, [{}, {"hour": 1}]):
                list(table.where_by(value))
            elif exactly(value, [{"hour": "when"}]):
                self.raises(InvalidTable, lambda: next(table.where_by(value)))
            elif isinstance(value, dict) and all(isinstance(key, str) for key in value):
                self.raises(UnknownName, lambda: next(table.where_by(value)), name="a")
            else:
                self.raises(InvalidOperation, lambda: next(table.where_by(value)))
        integers = [value for value in values() if isinstance(value, int) and not isinstance(value, bool)]
        self.refuses(InvalidTable, lambda value: list(table.where(room=1, hour=value)), integers)
        self.refuses(InvalidTable, lambda value: list(table.where_by({"talk": value})), integers)

    def test_the_first_error_of_where(self):
        table = plan()
        self.raises(InvalidOperation, lambda: next(table.where_by({"day": None, 1: None})))
        self.raises(UnknownName, lambda: next(table.where_by({"hour": None, "when": None, "day": 1})), name="day")
        self.raises(UnknownName, lambda: next(table.where(hour=None, when=None)), name="when")
        self.raises(UnknownName, lambda: next(table.where_by({"zzz": 1, "": 1, "Hour": 1})), name="")
        self.raises(InvalidTable, lambda: next(Table(("a",)).where(a=True)))

    def test_where_raises_when_its_first_result_is_asked_for(self):
        table = plan()
        for found, error in ((table.where(day=1), UnknownName), (table.where(hour=None), InvalidTable),
                             (table.where_by(None), InvalidOperation), (table.where_by({"day": 1}), UnknownName)):
            self.raises(error, lambda: next(found))

    def test_where_goes_on_as_it_began(self):
        by = {"hour": 1}
        found = plan().where_by(by)
        self.assertEqual(next(found), 0)
        by["hour"] = 2
        self.assertEqual(list(found), [1, 2])

    def test_wrong_indices_for_amount_of(self):
        self.refuses_indices(plan().amount_of)


class ChangedTest(TableTest):

    def test_both(self):
        self.has(plan() | plan().only(1), NAMES, (*PLAN_ROWS, (1, 1, 6)), (3, 2, 2, 2, 2))
        self.has(plan().only(1) | plan(), NAMES, ((1, 1, 6), *PLAN_ROWS), (2, 3, 2, 2, 2))
        self.has(Table(("a",)) | full(), ("a",), FULL_ROWS, (1,) * 200)
        self.has(by_odds() | by_odds().without(0), ("a", "b"), ((1, 2), (3, 4), (1, 2), (3, 4), (1, 2)),
                 ((3, 1), (2, 1), (5, 2), (2, 1), (5, 2)), ODDS)

    def test_both_of_tables_that_do_not_fit(self):
        empty = Table(("a",))
        for value in values():
            if exactly(str(value), ["table of 1 columns, 0 rows"]):
                self.assertEqual(empty | value, empty)
            else:
                self.raises(InvalidOperation, lambda: empty | value)
        self.raises(InvalidOperation, lambda: empty | Table(("b",)))
        self.raises(InvalidOperation, lambda: empty | Table(("a", "b")))
        self.raises(InvalidOperation, lambda: empty | Table(("a",), scale=ODDS))
        self.raises(InvalidOperation, lambda: Table(("a",), scale=PAIRS) | Table(("a",), scale=Scale.classes(3)))
        self.raises(TooMany, lambda: full() | Table(("a",), (1,)), limit=200)
        self.raises(InvalidOperation, lambda: full() | Table(("b",), (1,)))

    def test_with_row(self):
        self.has(plan().with_row((9, 9, 9)), NAMES, (*PLAN_ROWS, (9, 9, 9)), (3, 2, 2, 2, 1))
        self.has(plan().with_row((1, 1, 5), weight=7), NAMES, (*PLAN_ROWS, (1, 1, 5)), (3, 2, 2, 2, 7))
        self.has(Table(("a",), scale=ODDS).with_row((1,), weight=None), ("a",), ((1,),), ((2, 1),), ODDS)
        self.has(Table(("a",), scale=PAIRS).with_row((1,)), ("a",), ((1,),), ((1, 0),), PAIRS)
        self.has(full().without(0).with_row((7,)), ("a",), (*FULL_ROWS[1:], (7,)), (1,) * 200)
        self.refuses(InvalidTable, lambda value: plan().with_row(value), ROWS)
        self.refuses(InvalidTable, lambda value: plan().with_row((1, 2, 3), weight=value), [None, *WEIGHTS])
        self.raises(InvalidTable, lambda: plan().with_row((1, 2, 3), weight=FORTY + 1))
        self.raises(TooMany, lambda: full().with_row((1,)), limit=200)
        self.raises(InvalidTable, lambda: full().with_row((1, 2)))
        self.raises(InvalidTable, lambda: full().with_row((1,), weight=0))

    def test_without_and_only(self):
        for many in range(5):
            for some in itertools.product(range(4), repeat=many):
                inside = [index for index in range(4) if index in some]
                outside = [index for index in range(4) if index not in some]
                for table, left in ((plan().only(*some), inside), (plan().only_all(some), inside),
                                    (plan().without(*some), outside), (plan().without_all(some), outside)):
                    self.has(table, NAMES, tuple(PLAN_ROWS[index] for index in left),
                             tuple((3, 2, 2, 2)[index] for index in left))
        self.has(by_odds().only(2, 0), ("a", "b"), ((1, 2), (1, 2)), ((3, 1), (5, 2)), ODDS)
        self.has(by_classes().without(0), ("a", "b"), ((3, 4), (-1, 2)), ((2, 0), (5, 7)), PAIRS)

    def test_wrong_indices(self):
        for call in (plan().without_all, plan().only_all):
            self.refuses_indices(call)
        for call in (plan().without, plan().only):
            self.refuses(InvalidNumber, call, INDICES, keeps="value")
            self.raises(InvalidNumber, lambda: call(1, 4, -1), value=4)
            self.raises(InvalidNumber, lambda: call((0,)), value=(0,))
        self.raises(InvalidNumber, lambda: Table(("a",)).only(0), value=0)

    def test_weighted(self):
        self.has(plan().weighted(0, 8), NAMES, PLAN_ROWS, (8, 2, 2, 2))
        self.has(plan().weighted(3, FORTY), NAMES, PLAN_ROWS, (3, 2, 2, FORTY))
        self.has(by_odds().weighted(1, (7, 3)), ("a", "b"), by_odds().rows, ((3, 1), (7, 3), (5, 2)), ODDS)
        self.refuses(InvalidNumber, lambda value: plan().weighted(value, 1), INDICES, keeps="value")
        self.refuses(InvalidTable, lambda value: plan().weighted(0, value), WEIGHTS)
        self.raises(InvalidTable, lambda: plan().weighted(0, FORTY + 1))
        self.raises(InvalidNumber, lambda: plan().weighted(4, None), value=4)

    def test_reordered(self):
        for some in itertools.permutations(range(4)):
            self.has(plan().reordered(some), NAMES, tuple(PLAN_ROWS[index] for index in some),
                     tuple((3, 2, 2, 2)[index] for index in some))
        self.has(Table(("a",)).reordered(()), ("a",), (), ())
        self.has(by_odds().reordered((2, 0, 1)), ("a", "b"), ((1, 2), (1, 2), (3, 4)), ((5, 2), (3, 1), (2, 1)), ODDS)
        self.refuses(InvalidOperation, plan().reordered, [(0, 1, 2, 3)])
        for value in ((0, 1, 2), (0, 1, 2, 2), (0, 1, 2, 4), (0, 1, 2, 3, 3), (0, True, 2, 3), [0, 1, 2, 3], (-1, 0, 1, 2)):
            self.raises(InvalidOperation, lambda: plan().reordered(value))

    def test_renamed(self):
        moved = ((1, 5, 1), (1, 6, 1), (2, 6, 1), (1, 5, 2))
        self.has(plan().renamed(hour="when"), ("room", "talk", "when"), moved, (3, 2, 2, 2))
        self.has(plan().renamed_by({"hour": "when"}), ("room", "talk", "when"), moved, (3, 2, 2, 2))
        swapped = tuple((row[1], row[0], row[2]) for row in PLAN_ROWS)
        self.has(plan().renamed(hour="room", room="hour"), NAMES, swapped, (3, 2, 2, 2))
        turned = tuple((row[2], row[0], row[1]) for row in PLAN_ROWS)
        self.has(plan().renamed_by({"talk": "hour", "room": "talk", "hour": "room"}), NAMES, turned, (3, 2, 2, 2))
        self.assertEqual([plan().renamed(), plan().renamed_by({}), plan().renamed(hour="hour")], [plan()] * 3)
        self.has(by_odds().renamed(a="z"), ("b", "z"), ((2, 1), (4, 3), (2, 1)), by_odds().weights, ODDS)
        self.has(Table(("self",), (1,)).renamed_by({"self": "columns"}), ("columns",), ((1,),), (1,))
        self.has(Table(("columns",), (1,)).renamed(columns="self"), ("self",), ((1,),), (1,))
        self.has(Table(EIGHT, tuple(range(8))).renamed(a="z"), tuple("bcdefghz"), ((1, 2, 3, 4, 5, 6, 7, 0),), (1,))

    def test_wrong_new_names(self):
        for value in values():
            if exactly(value, [{}, {"hour": "when"}]):
                plan().renamed_by(value)
            elif exactly(value, [{"hour": 1}]):
                self.raises(InvalidColumns, lambda: plan().renamed_by(value))
            elif isinstance(value, dict) and all(isinstance(key, str) for key in value):
                self.raises(UnknownName, lambda: plan().renamed_by(value), name="a")
            else:
                self.raises(InvalidOperation, lambda: plan().renamed_by(value))
        names = ["a", "b", "hour", "self", "eightabc"]
        self.refuses(InvalidColumns, lambda value: plan().renamed(hour=value), names)
        self.refuses(InvalidColumns, lambda value: plan().renamed_by({"talk": "c", "hour": value}), names)
        self.raises(InvalidColumns, lambda: plan().renamed(hour="x", room="x"))
        self.raises(InvalidColumns, lambda: plan().renamed(hour="talk"))

    def test_the_first_error_of_new_names(self):
        self.raises(InvalidOperation, lambda: plan().renamed_by({"day": 1, 2: "a"}))
        self.raises(UnknownName, lambda: plan().renamed_by({"hour": None, "when": "a", "day": "b"}), name="day")
        self.raises(UnknownName, lambda: plan().renamed(hour="talk", when="a"), name="when")

    def test_tables_and_arguments_stay_as_they_were(self):
        names, wanted, broken = {"hour": "when", "talk": "b"}, {"room": 1, "hour": 1}, {"hour": None, "zzz": [1]}
        arguments = (names, wanted, broken)
        before = copy.deepcopy(arguments)
        for make in (plan, by_odds, by_classes, full):
            table, other = make(), make()
            calls = [
                lambda: table | other.only(0), lambda: table | 5, lambda: table | plan().renamed(hour="x"),
                lambda: table.with_row(table[0]), lambda: table.with_row(None), lambda: table.with_row(table[0], weight=0),
                lambda: table.without(0), lambda: table.without(0, 500), lambda: table.only(1), lambda: table.only([]),
                lambda: table.weighted(0, table.weight(1)), lambda: table.weighted(0, None),
                lambda: table.reordered(tuple(reversed(range(len(table))))), lambda: table.reordered((0,)),
                lambda: table.renamed_by(names), lambda: table.renamed_by(broken), lambda: table.renamed(a="c"),
                lambda: table.amount_of((1, 0)), lambda: table.amount_of(None), lambda: table.grouped(()).clear(),
                lambda: table.grouped(("zzz",)), lambda: list(table.where_by(wanted)), lambda: list(table.where_by(broken)),
                lambda: table[500], lambda: table.weight(None), lambda: table.agreement(0, 1), lambda: table == other,
                lambda: table in table, lambda: str(table), lambda: bool(table),
            ]
            for call in calls:
                try:
                    call()
                except (ValueError, LookupError, OverflowError):
                    pass
                self.assertEqual([state(table), state(other)], [state(make())] * 2)
                self.assertEqual(arguments, before)

    def test_equal_calls_have_equal_results(self):
        table = plan()
        found = table.grouped(("talk",))
        found[(5,)] = None
        self.assertEqual(table.grouped(("talk",)), {(5,): (0, 3), (6,): (1, 2)})
        self.assertEqual(list(table.where(hour=1)), list(table.where(hour=1)))
        self.assertEqual(table.renamed(hour="a"), table.renamed(hour="a"))


if __name__ == "__main__":
    unittest.main()
