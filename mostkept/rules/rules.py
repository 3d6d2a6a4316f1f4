"""Rules over columns."""

from mostkept.base.rows import check_columns, new_names
from mostkept.errors import InvalidColumns, InvalidOperation, InvalidRules, TooMany, UnknownName
from mostkept.rules.forms import is_rule, is_some, less, plain_rules

MAX_COLUMNS = 8
MAX_RULES = 16


class Rules:
    """At most sixteen different rules over at most eight columns, which never change."""

    def __init__(self, columns, *rules):
        check_columns(columns)
        for rule in rules:
            if not is_rule(columns, rule):
                raise InvalidRules("a rule is not a rule over the columns")
        different = tuple(sorted(set(rules)))
        if len(different) > MAX_RULES:
            raise TooMany(MAX_RULES)
        self._columns = columns
        self._rules = different
        self._plain = plain_rules(different)

    @classmethod
    def of(cls, columns, rules):
        """Return the rules that a tuple has."""
        check_columns(columns)
        if not isinstance(rules, tuple):
            raise InvalidRules("the rules are not a tuple")
        return cls(columns, *rules)

    @classmethod
    def keyed(cls, columns, *keys):
        """Return the rules by which each key leads to all other columns."""
        return cls.keyed_by(columns, keys)

    @classmethod
    def keyed_by(cls, columns, keys):
        """Return the rules by which each key of a tuple leads to all other columns."""
        check_columns(columns)
        if not isinstance(keys, tuple) or not all([is_some(columns, key) for key in keys]):
            raise InvalidColumns("the keys are not a tuple of ascending tuples of columns")
        return cls.of(columns, tuple([(key, less(columns, key)) for key in keys if key != columns]))

    @property
    def columns(self):
        """Return the names of the columns."""
        return self._columns

    @property
    def rules(self):
        """Return the rules, ascending."""
        return self._rules

    @property
    def plain(self):
        """Return the plain rules, ascending."""
        return self._plain

    def __len__(self):
        return len(self._rules)

    def __contains__(self, x):
        return x in self._rules

    def __eq__(self, other):
        return isinstance(other, Rules) and self._columns == other._columns and self._rules == other._rules

    def __str__(self):
        return f"{len(self._rules)} rules over {len(self._columns)} columns"

    def __or__(self, other):
        if not isinstance(other, Rules) or self._columns != other._columns:
            raise InvalidOperation("the other value is not rules over the same columns")
        return Rules.of(self._columns, self._rules + other._rules)

    def with_rule(self, left, right):
        """Return the rules with this one."""
        return Rules.of(self._columns, self._rules + ((left, right),))

    def without_rule(self, left, right):
        """Return the rules without this one."""
        if (left, right) not in self._rules:
            raise InvalidRules("the rule to take out is not one of the rules")
        return Rules.of(self._columns, tuple([rule for rule in self._rules if rule != (left, right)]))

    def struck(self, *columns):
        """Return the rules over the other columns."""
        return self.struck_all(columns)

    def struck_all(self, columns):
        """Return the rules over the columns other than those of a tuple."""
        if not isinstance(columns, tuple):
            raise InvalidColumns("the columns to strike are not a tuple")
        for name in columns:
            if name not in self._columns:
                raise UnknownName(name)
        rules = [(less(left, columns), less(right, columns)) for left, right in self._rules]
        return Rules.of(less(self._columns, columns), tuple([rule for rule in rules if rule[1] != ()]))

    def renamed(self, **names):
        """Return the rules with new names for the columns that are passed as keywords."""
        return self.renamed_by(names)

    def renamed_by(self, names):
        """Return the rules with new names for the columns that are keys of the dict."""
        new = dict(zip(self._columns, new_names(self._columns, names)))
        rules = [tuple([_named(side, new) for side in rule]) for rule in self._rules]
        return Rules.of(_named(self._columns, new), tuple(rules))


def check_rules(rules):
    """Raise InvalidRules if these are not rules."""
    if not isinstance(rules, Rules):
        raise InvalidRules("the rules are not rules")


def _named(columns, names):
    return tuple(sorted([names[name] for name in columns]))
