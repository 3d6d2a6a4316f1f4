"""Values of many kinds, and checks that all tests share."""

import doctest
import unittest

from mostkept.base.rows import pairs
from mostkept.base.scales import Scale
from mostkept.errors import Chainless, InvalidOperation, InvalidRules, InvalidTable
from mostkept.keeps.best import Ranking
from mostkept.live.live import Live
from mostkept.orders.witnesses import is_witness
from mostkept.rules.rules import Rules
from mostkept.tables.tables import Table
from mostkept.text.shell import Shell

NAMES = ("hour", "room", "talk")
PLAN_ROWS = ((1, 1, 5), (1, 1, 6), (1, 2, 6), (2, 1, 5))
FORTY = 10 ** 40 - 1
TALKS = Rules(("hour", "room", "talk"), (("hour", "room"), ("talk",)), (("talk",), ("hour", "room")))
PLAN = Table(NAMES, *PLAN_ROWS, weights=(3, 2, 2, 2))
PLACES = Rules(("item", "place", "team"), (("item",), ("place",)), (("team",), ("place",)))
STOCK = Table(("item", "place", "team"), (1, 1, 1), (1, 2, 2), (2, 2, 1))
NO_RULES, NO_COLUMNS, NO_PLACES = Rules(NAMES), Rules(()), Rules(PLACES.columns)
ALL = ("all",)
KNOWN = {"TALKS": TALKS, "PLAN": PLAN, "PLACES": PLACES, "STOCK": STOCK, "Rules": Rules, "Table": Table, "Scale": Scale}


def plan():
    return Table(NAMES, *PLAN_ROWS, weights=(3, 2, 2, 2))


def nested(inner, wrap):
    for _ in range(20):
        inner = wrap(inner)
    return inner


def values():
    """Return values of all the kinds of [0.4]; the tests name those that are right where they use them."""
    return [
        0, 1, 2, 3, 4, 5, 8, 9, 200, -1, FORTY, -FORTY, True, False, None,
        "", "a", "b", "hour", "room", "self", "eightabc", "ninechars", "Hour", "hour1", "a b", "a\n", "\n", "~",
        (), (0,), (1,), (2,), (-1,), (True,), (False,), (None,), ("1",), ((1,),), ([1],),
        (0, 0), (1, 0), (0, 1), (1, 1), (2, 1), (4, 2), (1, 2), (3, 4), (1, True), (2, True), (1, "a"), (1, None),
        (1, 1, 1), (1, 1, 5), (1, 1, True), (1, 1, "5"), (1, 1, 1, 1), (1, 1, 1, 1, 1), (FORTY, 1), (3, -1), (0, 1, 2, 3),
        ("a",), ("b",), ("hour",), ("talk",), ("a", "b"), ("b", "a"), ("a", "a"), ("hour", "talk"), ("talk", "hour"),
        ("a", 1), (1, "a"), ("Hour",), ("",), ("a", None), NAMES, tuple("abcdefgh"), tuple("abcdefghi"), (("a",), ("b",)),
        [], [0], [1], [1, 1, 5], [1, 1], ["a"], ["hour"], [2, 1], [[]], [(1, 1, 5)], ((1, 1, 5), [1, 1, 5]),
        ((1, 1, 5),), ((1, 1),), ((1, 1, 5), (1, 1, True)), ((1, 1, 5), None), PLAN_ROWS,
        {}, {"hour": 1}, {"hour": "when"}, {1: "a"}, {None: 1}, {(): ()}, {"a": [1]},
        nested((), lambda one: (one,)), nested([], lambda one: [one]), nested({}, lambda one: {"a": one}),
        nested(1, lambda one: (one,)), nested("a", lambda one: (one,)),
        Scale.sums(), Scale.classes(2), Scale.odds(), plan(), Table(("a",)), pairs((), (), ()), plan().where(),
        PLAN, STOCK, TALKS, PLACES, NO_RULES, NO_COLUMNS, NO_PLACES,
        ((), ()), ((), ("hour",)), ((), NAMES), (("hour",), ("hour",)), (("hour",), ("room",)), (("hour",), ()),
        (("hour", "room"), ("talk",)), (("talk",), ("hour", "room")), (("talk",), ("room", "hour")),
        (("room", "hour"), ("talk",)), (["hour"], ("room",)), (("hour",), ["room"]), [("hour",), ("room",)],
        (("hour",), ("room",), ("talk",)), ((("hour",), ("room",)),), (("hour",), ("day",)), ((), ("hour", "hour")),
        [0, 2], (0, True), {0: 1}, {(1,): 1}, {True: 0},
        ("derived", ()), ("apart", (0, 0, 0), (0, 0, 1)), ("alike", (), ()), ("unlike", (0, 0, 0), (0, 0, 1)),
        ("full", {}), ("full", {1: 0, 3: 0}), ("open", 1), ("open", True), ["open", 1],
        ("keep", (), ALL), ("half", (), {}), ("ranked", (), {}), ("chain", ()), ("drop", 0), (ALL,),
        "none ", "-", "names ", "0 -> 0", "columns hour", "no steps", "3:2", "1/2", "keep none\nall", "halves -",
        Live(PLAN, TALKS), Ranking(PLAN, TALKS), Shell(), Live(PLAN, TALKS).trial(), Ranking(PLAN, TALKS).within(1),
    ]


def exactly(value, others):
    """Return whether the value is one of the others: of the same kinds throughout, so not True for 1."""
    return any(value is other or repr(value) == repr(other) for other in others)


def can_be_key(value):
    return all(can_be_key(one) for one in value) if isinstance(value, tuple) else not isinstance(value, (list, dict))


def otherwise(value):
    """Yield values that are the same but for one thing, somewhere in it."""
    if isinstance(value, tuple):
        yield list(value)
        yield value + (value[-1] if value else 0,)
        for at in range(len(value)):
            yield value[:at] + value[at + 1:]
            for one in otherwise(value[at]):
                yield value[:at] + (one,) + value[at + 1:]
        if len(value) > 1 and value != value[::-1]:
            yield value[::-1]
    elif isinstance(value, dict):
        yield tuple(value.items())
        yield {**value, "key": ALL}
        for key in value:
            yield {one: value[one] for one in value if one != key}
            for one in otherwise(value[key]):
                yield {**value, key: one}
            for one in otherwise(key):
                if can_be_key(one):
                    yield {one if two == key else two: value[two] for two in value}
    elif isinstance(value, int):
        yield from (value + 1, value - 1, value == 1, str(value), None, (value,), [value])
    else:
        yield from (str(value) + "x", None, 1, (value,))


def plain(value):
    """Return whether the value is an integer or a tuple of such, without True and False."""
    return all(plain(one) for one in value) if isinstance(value, tuple) else type(value) is int


class Case(unittest.TestCase):

    def raises(self, error, call, **kept):
        """Check the very class of the error that the call raises, and what it keeps."""
        with self.assertRaises(error) as caught:
            call()
        self.assertIs(caught.exception.__class__, error)
        for name, value in kept.items():
            found = getattr(caught.exception, name)
            self.assertTrue(exactly(value, [found]), f"{name} is {found!r}, not {value!r}")

    def refuses(self, error, call, right=(), keeps=None, more=()):
        """Check that the call raises the error for all values but the right ones, and nothing for those."""
        for value in [*values(), *more]:
            with self.subTest(value=repr(value)):
                if exactly(value, right):
                    call(value)
                else:
                    self.raises(error, lambda: call(value), **({keeps: value} if keeps else {}))

    def chainless(self, rules, call):
        """Check that the call raises Chainless with a witness of the rules."""
        with self.assertRaises(Chainless) as caught:
            call()
        self.assertIs(is_witness(rules, caught.exception.witness), True)

    def checks_both(self, *calls):
        """Check that each call of a table and rules refuses what is none of them, the table first, and other columns."""
        for call in calls:
            for value in values():
                if not isinstance(value, Table):
                    self.raises(InvalidTable, lambda: call(value, TALKS))
                    self.raises(InvalidTable, lambda: call(value, None))
                if not isinstance(value, Rules):
                    self.raises(InvalidRules, lambda: call(PLAN, value))
            self.raises(InvalidOperation, lambda: call(PLAN, PLACES))
            self.raises(InvalidOperation, lambda: call(STOCK, NO_RULES))

    def checks_rules(self, call):
        """Check that a call of rules refuses what is none."""
        for value in values():
            if not isinstance(value, Rules):
                self.raises(InvalidRules, lambda: call(value))

    def accepts(self, call, right, more=()):
        """Check that the call returns True for the right values, and False for all others."""
        for value in [*values(), *more]:
            with self.subTest(value=repr(value)):
                self.assertIs(call(value), exactly(value, right))

    def examples(self, text, known):
        """Run examples as they stand in the document."""
        found = doctest.DocTestParser().get_doctest(text, dict(known), "DOC.md", None, 0)
        self.assertGreater(len(found.examples), 0)
        told = []
        result = doctest.DocTestRunner(verbose=False).run(found, out=told.append)
        self.assertEqual(result.failed, 0, "".join(told))
