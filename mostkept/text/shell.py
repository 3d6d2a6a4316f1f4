"""A shell: live tables under names, which commands change and ask."""

from mostkept.errors import Chainless, InvalidCommand, InvalidEdit, InvalidOperation, NothingToUndo, TooMany
from mostkept.errors import UnknownName
from mostkept.hard.halves import doubled_bound
from mostkept.keeps.best import loss_levels
from mostkept.keeps.sure import loss_with, row_kinds
from mostkept.live.live import Live
from mostkept.rules.rules import Rules
from mostkept.tables.conflicts import conflicts
from mostkept.tables.tables import Table
from mostkept.text.commands import read_command
from mostkept.text.formats import format_amount, format_keep, format_order, format_rules, format_table
from mostkept.text.words import read_amount

MAX_TABLES = 20
MAX_LEVELS = 20
NO_CHAIN = "no chain"


class Shell:
    """Live tables under names."""

    def __init__(self):
        self._lives = {}
        self._log = []

    @classmethod
    def of_log(cls, lines):
        """Return a new shell that has run a tuple of commands."""
        shell = cls()
        shell.run_all(lines)
        return shell

    @property
    def names(self):
        """Return the names of the live tables, ascending."""
        return tuple(sorted(list(self._lives)))

    @property
    def log(self):
        """Return the commands that arranged or changed live tables."""
        return tuple(self._log)

    def __getitem__(self, at):
        return self._live_of(at).table

    def __iter__(self):
        raise TypeError("a shell is not iterated over: take its names")

    def __contains__(self, x):
        return isinstance(x, str) and x in self._lives

    def __len__(self):
        return len(self._lives)

    def __eq__(self, other):
        return isinstance(other, Shell) and self._lives == other._lives

    def __str__(self):
        return f"shell with {len(self._lives)} tables"

    def branch_of(self, name):
        """Return a branch of a live table."""
        return self._live_of(name).branch()

    def run(self, line):
        """Run a command and return its answer."""
        command = read_command(line)
        if command is None:
            raise InvalidCommand("the line is not a command")
        word, name, given = command
        if word == "names":
            return " ".join(self.names) if len(self._lives) > 0 else "-"
        if word in ANSWERS:
            return _answer(word, self._live_of(name), given)
        if word in ("new", "copy", "forget"):
            answer = self._arrange(word, name, given)
        else:
            answer = self._edit(word, name, given)
        self._log.append(line)
        return answer

    def run_all(self, lines):
        """Run a tuple of commands and return their answers."""
        if not isinstance(lines, tuple):
            raise InvalidCommand("the lines are not a tuple")
        return tuple([self.run(line) for line in lines])

    def tried(self, line):
        """Run a command and return its answer, or the name of the error that it raises."""
        try:
            return self.run(line)
        except InvalidCommand:
            return "! InvalidCommand"
        except UnknownName:
            return "! UnknownName"
        except InvalidOperation:
            return "! InvalidOperation"
        except TooMany:
            return "! TooMany"
        except InvalidEdit:
            return "! InvalidEdit"
        except NothingToUndo:
            return "! NothingToUndo"

    def _live_of(self, name):
        if not isinstance(name, str) or name not in self._lives:
            raise UnknownName(name)
        return self._lives[name]

    def _arrange(self, word, name, given):
        """Make, copy or forget a live table."""
        if word == "new":
            self._check_new(name, given[1])
            self._lives[name] = Live(Table(given[1], scale=given[0]), Rules(given[1]))
        elif word == "copy":
            live = self._live_of(name)
            self._check_new(given[0], live.table.columns)
            self._lives[given[0]] = live.branch()
        else:
            self._live_of(name)
            del self._lives[name]
        return "ok"

    def _check_new(self, name, columns):
        if name in self._lives or columns == ():
            raise InvalidOperation("the name is taken, or there are no columns")
        if len(self._lives) >= MAX_TABLES:
            raise TooMany(MAX_TABLES)

    def _edit(self, word, name, given):
        """Edit a live table, take back its last group or make it again, and return the news."""
        live = self._live_of(name)
        if word == "undo":
            news = live.undo()
        elif word == "redo":
            news = live.redo()
        elif word in ("row", "weight"):
            news = live.apply((word, given[0], _weight(live.table.scale, given[1])))
        else:
            edit = (word,) + given
            news = live.apply(edit)
        return " -> ".join([_loss_text(live, amount) for amount in news])


def _weight(scale, text):
    """Return the weight of a text, or None for None."""
    if text is None:
        return None
    amount = read_amount(scale, text)
    if amount is None:
        raise InvalidEdit("the weight is not one of the scale of the table")
    return amount


def _loss_text(live, amount):
    return NO_CHAIN if amount is None else format_amount(live.table.scale, amount)


def _answer(word, live, given):
    answer = ANSWERS[word]
    try:
        return answer(live, given)
    except Chainless:
        return NO_CHAIN


def _told_table(live, _):
    return format_table(live.table)


def _told_rules(live, _):
    return format_rules(live.rules)


def _told_order(live, _):
    return format_order(live.order_paper())


def _told_conflicts(live, _):
    found = [f"{index}-{other}" for index, other in conflicts(live.table, live.rules)]
    return " ".join(found) if len(found) > 0 else "none"


def _told_bound(live, _):
    return format_amount(live.table.scale, doubled_bound(live.table, live.rules))


def _told_loss(live, given):
    amount = loss_with(live.table, live.rules, stay=given[0], go=given[1])
    return "none" if amount is None else format_amount(live.table.scale, amount)


def _told_keep(live, _):
    return format_keep(live.greatest_keep())


def _told_kinds(live, _):
    words = row_kinds(live.table, live.rules)
    return " ".join(words) if len(words) > 0 else "-"


def _told_levels(live, given):
    """Return the texts of the first losses, each with its number of keeps."""
    found = []
    for level, many in loss_levels(live.table, live.rules):
        found.append(f"{format_amount(live.table.scale, level)} * {many}")
        if len(found) == given[0]:
            break
    return ", ".join(found)


ANSWERS = {
    "table": _told_table, "rules": _told_rules, "order": _told_order, "conflicts": _told_conflicts,
    "bound": _told_bound, "loss": _told_loss, "keep": _told_keep, "kinds": _told_kinds, "levels": _told_levels,
}
