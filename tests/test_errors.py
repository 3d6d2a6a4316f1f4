"""[0.18]: the sixteen classes of errors."""

import inspect
import unittest

from mostkept import errors
from tests.helper import Case, values

MESSAGES = ("InvalidColumns", "InvalidScale", "InvalidTable", "InvalidRules", "InvalidStep", "InvalidKeep",
            "InvalidOperation", "InvalidEdit", "ParseError", "InvalidCommand")
KEEPERS = (("InvalidNumber", IndexError, "value"), ("UnknownName", KeyError, "name"),
           ("TooMany", OverflowError, "limit"), ("Chainless", ArithmeticError, "witness"),
           ("NothingToUndo", LookupError, "many"))


def named(name):
    return getattr(errors, name)


class ErrorsTest(Case):

    def test_there_are_just_these_sixteen(self):
        found = [name for name, _ in inspect.getmembers(errors, inspect.isclass)]
        self.assertEqual(sorted(found), sorted(["TableError", *MESSAGES, *[name for name, _, _ in KEEPERS]]))
        self.assertEqual(len(found), 16)
        self.assertEqual([named(name).__module__ for name in found], ["mostkept.errors"] * 16)

    def test_from_which_class_each_is_directly_derived(self):
        self.assertEqual(errors.TableError.__bases__, (ValueError,))
        for name in MESSAGES:
            self.assertEqual(named(name).__bases__, (errors.TableError,), name)
        for name, base, _ in KEEPERS:
            self.assertEqual(named(name).__bases__, (base,), name)

    def test_from_which_classes_they_are_not_derived(self):
        for name, _, _ in KEEPERS:
            self.assertFalse(issubclass(named(name), errors.TableError), name)
        kinds = [*MESSAGES, *[name for name, _, _ in KEEPERS]]
        for name in kinds:
            for other in kinds:
                self.assertEqual(issubclass(named(name), named(other)), name == other, (name, other))

    def test_some_take_a_message(self):
        for name in ("TableError", *MESSAGES):
            error = named(name)("what is wrong")
            self.assertIsInstance(error, ValueError)
            self.assertIsInstance(error, errors.TableError)

    def test_some_take_one_value_and_keep_it(self):
        for name, _, kept in KEEPERS:
            for value in [*values(), "hour", 10 ** 5000]:
                self.assertIs(getattr(named(name)(value), kept), value, name)
                self.assertEqual(list(vars(named(name)(value))), [kept])

    def test_the_value_is_still_there_when_they_are_caught(self):
        for name, base, kept in KEEPERS:
            with self.assertRaises(base) as caught:
                raise named(name)(("some", 7))
            self.assertEqual(getattr(caught.exception, kept), ("some", 7))

    def test_the_value_is_asked_for(self):
        for name, _, _ in KEEPERS:
            with self.assertRaises(TypeError):
                named(name)()
            with self.assertRaises(TypeError):
                named(name)(1, 2)


if __name__ == "__main__":
    unittest.main()
