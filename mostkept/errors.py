"""All errors that the package raises."""


class TableError(ValueError):
    """A value that is passed has not the form that is asked for."""


class InvalidColumns(TableError):
    """Columns are no ascending tuple of names, or the table or the rules lack them."""


class InvalidScale(TableError):
    """A scale is no scale."""


class InvalidTable(TableError):
    """A table, a row or a weight does not fit."""


class InvalidRules(TableError):
    """Rules, or one rule, do not fit."""


class InvalidStep(TableError):
    """A step is none of the rules."""


class InvalidKeep(TableError):
    """Indices are not a keep."""


class InvalidOperation(TableError):
    """A value does not fit what is done with it."""


class InvalidEdit(TableError):
    """An edit is none, or is not possible."""


class ParseError(TableError):
    """A text cannot be read."""


class InvalidCommand(TableError):
    """A line is not a command of the shell."""


class InvalidNumber(IndexError):
    """A number is not an index, or not one of those that are allowed."""

    def __init__(self, value):
        IndexError.__init__(self, value)
        self.value = value


class UnknownName(KeyError):
    """Nothing has this name."""

    def __init__(self, name):
        KeyError.__init__(self, name)
        self.name = name


class TooMany(OverflowError):
    """There is more than the limit allows."""

    def __init__(self, limit):
        OverflowError.__init__(self, limit)
        self.limit = limit


class Chainless(ArithmeticError):
    """The rules have no chain, as the witness shows."""

    def __init__(self, witness):
        ArithmeticError.__init__(self, witness)
        self.witness = witness


class NothingToUndo(LookupError):
    """Fewer groups of edits can be taken back, or made again."""

    def __init__(self, many):
        LookupError.__init__(self, many)
        self.many = many
