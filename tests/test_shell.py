"""[19.1], [19.2] and the module mostkept.text.shell."""

import random
import unittest

from mostkept.base.scales import Scale
from mostkept.errors import InvalidCommand, InvalidEdit, InvalidOperation, NothingToUndo, TooMany, UnknownName
from mostkept.hard.halves import doubled_bound
from mostkept.keeps.best import loss_levels
from mostkept.keeps.greatest import greatest_keep
from mostkept.keeps.sure import loss_with, row_kinds
from mostkept.live.live import Live
from mostkept.orders.chains import chain
from mostkept.orders.witnesses import is_order_paper
from mostkept.rules.rules import Rules
from mostkept.tables.conflicts import conflicts
from mostkept.tables.tables import Table
from mostkept.text.formats import format_amount, format_keep, format_rules, format_table, parse_keep, parse_order
from mostkept.text.shell import MAX_LEVELS, MAX_TABLES, Shell
from tests.helper import KNOWN, PLACES, PLAN, STOCK, TALKS, Case, exactly, values
from tests.search import SCALES, all_keeps, lost

EXAMPLES = """
>>> shell = Shell()
>>> shell.run_all(("new plan sums hour room talk", "row plan 1 1 5 @ 3", "row plan 1 1 6 @ 2", "rule plan hour room -> talk"))
('ok', '0 -> 0', '0 -> 0', '0 -> 2')
>>> [shell.run("kinds plan"), shell.run("levels plan 2"), shell.run("loss plan with 1"), shell.run("undo plan"), shell.tried("loss gone")]
['sure lost', '2 * 1, 3 * 1', '3', '2 -> 0', '! UnknownName']
"""
PLAN_LINES = ("new plan sums hour room talk", "row plan 1 1 5 @ 3", "row plan 1 1 6 @ 2", "row plan 1 2 6 @ 2", "row plan 2 1 5 @ 2",
              "rule plan hour room -> talk", "rule plan talk -> hour room")
STOCK_LINES = ("new stock sums item place team", "row stock 1 1 1", "row stock 1 2 2", "row stock 2 2 1", "rule stock item -> place",
               "rule stock team -> place")
ASKING = ("names", "table plan", "rules plan", "order plan", "conflicts plan", "bound plan", "loss plan", "keep plan", "kinds plan", "levels plan 3",
          "loss plan with 1 without 3", "table stock", "loss stock", "keep stock")


def shell_of(*lines):
    shell = Shell()
    shell.run_all(lines)
    return shell


def both():
    return shell_of(*PLAN_LINES, *STOCK_LINES)


def state(shell):
    """Return all that can be seen of a shell, and what its live tables can still undo and redo."""
    lives = {name: shell.branch_of(name) for name in shell.names}
    seen = []
    for name, live in lives.items():
        groups = len(live)
        past = list(live.losses())
        ahead = []
        while True:
            try:
                live.redo()
            except NothingToUndo:
                break
            ahead.append((live.table, live.rules))
        seen.append((name, groups, past, ahead))
    return shell.names, shell.log, [shell[name] for name in shell.names], seen, str(shell), len(shell)


class AnswersTest(Case):

    def test_examples(self):
        self.examples(EXAMPLES, {**globals(), **KNOWN})

    def test_constants(self):
        self.assertEqual([MAX_TABLES, MAX_LEVELS], [20, 20])

    def test_tables_are_made_copied_and_forgotten(self):
        shell = Shell()
        self.assertEqual([shell.run("names"), len(shell), bool(shell), shell.names, shell.log, str(shell)], ["-", 0, False, (), (), "shell with 0 tables"])
        for line, scale in (("new b sums hour", Scale.sums()), ("new a classes 3 x y", Scale.classes(3)), ("new names odds names", Scale.odds())):
            self.assertEqual(shell.run(line), "ok")
            name = line.split()[1]
            self.assertEqual((shell[name], shell.branch_of(name).rules), (Table(shell[name].columns, scale=scale), Rules(shell[name].columns)))
        self.assertEqual([shell.run("names"), shell.names, len(shell), bool(shell), str(shell)], ["a b names", ("a", "b", "names"), 3, True, "shell with 3 tables"])
        self.assertEqual([shell.run("copy b sums"), shell.run("forget b"), shell.run("names"), shell["sums"].columns], ["ok", "ok", "a names sums", ("hour",)])
        self.assertEqual([shell.run("new b sums a b c d e f g h"), shell["b"].columns], ["ok", tuple("abcdefgh")])
        self.assertEqual(["b" in shell, "sums" in shell, "hour" in shell, "new" in shell], [True, True, False, False])

    def test_news(self):
        shell = shell_of(*PLAN_LINES)
        self.assertEqual(shell_of().run_all(PLAN_LINES), ("ok", "0 -> 0", "0 -> 0", "0 -> 0", "0 -> 0", "0 -> 2", "2 -> 4"))
        for line, answer in (("weight plan 1 9", "4 -> 5"), ("unrule plan talk -> hour room", "5 -> 3"), ("undo plan", "3 -> 5"), ("undo plan", "5 -> 4"),
                             ("redo plan", "4 -> 5"), ("drop plan 0", "5 -> 2"), ("row plan -1 0 7", "2 -> 2"), ("row plan 1 1 1 @ 1", "2 -> 3"),
                             ("undo plan", "3 -> 2"), ("rule plan - -> talk", "2 -> 5")):
            self.assertEqual(shell.run(line), answer)
        self.assertEqual(shell["plan"].rows, PLAN.rows[1:] + ((-1, 0, 7),))
        stock = Shell()
        self.assertEqual(stock.run_all(STOCK_LINES)[-2:], ("0 -> 1", "1 -> no chain"))
        self.assertEqual([stock.run("drop stock 0"), stock.run("undo stock"), stock.run("undo stock")], ["no chain -> no chain"] * 2 + ["no chain -> 1"])
        odds = shell_of("new p odds x", "rule p - -> x", "row p 1 @ 3:2")
        self.assertEqual([odds.run("row p 2"), odds.run("weight p 1 5:4"), odds.run("undo p")], ["1:1 -> 3:2", "3:2 -> 5:4", "5:4 -> 3:2"])
        classes = shell_of("new p classes 2 x", "rule p - -> x", "row p 1 @ 0/3")
        self.assertEqual([classes.run("row p 2"), classes.run("weight p 1 0/1")], ["0/0 -> 0/3", "0/3 -> 0/1"])

    def test_answers_with_a_chain(self):
        shell = both()
        for line, answer in (("names", "plan stock"), ("table plan", format_table(PLAN)), ("rules plan", format_rules(TALKS)), ("conflicts plan", "0-1 0-3 1-2"),
                             ("bound plan", "8"), ("loss plan", "4"), ("keep plan", "0 2"), ("kinds plan", "sure lost sure lost"), ("levels plan 1", "4 * 1"),
                             ("levels plan 20", "4 * 1, 5 * 2, 6 * 1, 7 * 3, 9 * 1"), ("levels plan 3", "4 * 1, 5 * 2, 6 * 1"), ("loss plan with 3 without 1", "5"),
                             ("loss plan with none", "4"), ("loss plan without none", "4"), ("loss plan with none without none", "4"), ("loss plan without 0", "5"),
                             ("loss plan with 0 1", "none"), ("loss plan with 1 without 1", "none"), ("loss plan without 0 1 2 3", "9"), ("loss plan with 0 2", "4")):
            self.assertEqual(shell.run(line), answer)
        self.assertEqual(parse_order(shell.run("order plan"))[0], "chain")
        self.assertEqual(shell.log, PLAN_LINES + STOCK_LINES)

    def test_answers_without_a_chain(self):
        shell = both()
        for line in ("loss stock", "keep stock", "kinds stock", "levels stock 5", "loss stock with 0", "loss stock with 0 1", "loss stock with none without 2"):
            self.assertEqual(shell.run(line), "no chain")
        for line in ("loss stock with 3", "loss stock without 0 3", "loss stock with 200", "loss stock with 3 without 0"):
            self.raises(InvalidOperation, lambda: shell.run(line))
        for line, answer in (("table stock", format_table(STOCK)), ("rules stock", format_rules(PLACES)), ("conflicts stock", "0-1 0-2"), ("bound stock", "2")):
            self.assertEqual(shell.run(line), answer)
        self.assertIs(is_order_paper(PLACES, parse_order(shell.run("order stock"))), True)

    def test_answers_without_rows(self):
        for scale, zero in (("sums", "0"), ("classes 2", "0/0"), ("odds", "1:1")):
            shell = shell_of(f"new p {scale} a b")
            self.assertEqual(shell.run_all(("kinds p", "keep p", "conflicts p", "bound p", "loss p", "levels p 2", "rules p", "order p", "table p")),
                             ("-", "none", "none", zero, zero, f"{zero} * 1", "columns a b", "chain no steps", f"columns a b\nscale {scale}"))
            self.raises(InvalidOperation, lambda: shell.run("loss p with 0"))

    def test_answers_are_what_the_functions_return(self):
        chance = random.Random(19)
        for number in range(6):
            scale = SCALES[number % 3]
            one = {"sums": "4", "classes": "1/2", "odds": "5:4"}[scale.word]
            shell = shell_of("new p " + ("classes 2" if scale.word == "classes" else scale.word) + " a b c")
            for _ in range(16):
                many = len(shell["p"])
                line = chance.choice([f"row p {chance.randint(1, 2)} {chance.randint(1, 2)} {chance.randint(1, 2)}", f"row p 1 2 3 @ {one}", "undo p", "redo p",
                                      f"drop p {many - 1}", f"weight p 0 {one}", "rule p a -> b", "rule p b -> a", "unrule p a -> b", "rule p - -> c", "copy p q"])
                shell.tried(line)
                table, rules = shell["p"], shell.branch_of("p").rules
                self.assertEqual(shell.run("table p"), format_table(table))
                self.assertEqual(shell.run("rules p"), format_rules(rules))
                self.assertIs(is_order_paper(rules, parse_order(shell.run("order p"))), True)
                self.assertEqual(shell.run("conflicts p"), " ".join(f"{at}-{other}" for at, other in conflicts(table, rules)) or "none")
                self.assertEqual(shell.run("bound p"), format_amount(scale, doubled_bound(table, rules)))
                if chain(rules) is None:
                    continue
                self.assertEqual(shell.run("keep p"), format_keep(greatest_keep(table, rules)))
                self.assertIn(parse_keep(shell.run("keep p")), all_keeps(table, rules))
                self.assertEqual(shell.run("kinds p"), " ".join(row_kinds(table, rules)) or "-")
                self.assertEqual(shell.run("loss p"), format_amount(scale, lost(table, greatest_keep(table, rules))))
                levels = [f"{format_amount(scale, loss)} * {many}" for loss, many in loss_levels(table, rules)]
                self.assertEqual(shell.run("levels p 4"), ", ".join(levels[:4]))
                if len(table) > 1:
                    told = loss_with(table, rules, stay=(0,), go=(1,))
                    self.assertEqual(shell.run("loss p with 0 without 1"), "none" if told is None else format_amount(scale, told))
            self.assertTrue(Shell.of_log(shell.log) == shell)
            self.assertEqual(state(Shell.of_log(shell.log)), state(shell))


class CommandsTest(Case):

    def test_lines_that_are_no_commands(self):
        shell = both()
        held = state(shell)
        wrong = ["", " ", "names ", " names", "Names", "names plan", "name", "new", "new x", "new x sums", "new x sums ", "new x sums b a", "new x sums a a",
                 "new x classes a", "new x classes 0 a", "new x classes 5 a", "new x classes 02 a", "new x sum a", "new x odds 2 a", "new X sums a", "new ninechars sums a",
                 "new x sums a b c d e f g h i", "new x sums - a", "new x  sums a", "copy plan", "copy plan X", "copy plan x y", "copy plan ", "forget", "forget plan x",
                 "forget plan ", "forget -", "row plan", "row plan ", "row plan 1 1 5 @", "row plan 1 1 5 @ ", "row plan 1 1 5 3 @ 1 @ 2", "row plan 1 1 5@3",
                 "row plan @ 3", "row plan 1 1  5", "row plan 01 1 5", "row plan +1 1 5", "row plan -0 1 5", "row plan a", "row plan 1 1 5 @ 03", "row plan 1 1 5 @ 2:4",
                 "row plan 1 1 5 @ 1/2/3/4/5", "row plan 1 1 5 @ none", "row plan 1 1 5 @ 0:1", "drop plan", "drop plan -1", "drop plan 0 1", "drop plan 00", "drop plan none",
                 "weight plan", "weight plan 0", "weight plan 0 ", "weight plan -1 3", "weight plan 0 @ 3", "weight plan 0 x", "weight plan 0 1 2", "weight plan 0 1.5", "rule plan",
                 "rule plan hour", "rule plan hour -> ", "rule plan hour -> -", "rule plan -> hour", "rule plan hour->room", "rule plan room hour -> talk",
                 "rule plan hour -> room -> talk", "rule plan hour  -> room", "unrule plan", "unrule plan talk -> -", "undo plan 1", "undo", "redo", "redo plan ", "undo plan plan",
                 "table", "table plan ", "rules plan plan", "order", "order plan 1", "conflicts plan 0", "bound plan 0", "loss", "loss plan ", "loss plan with",
                 "loss plan with ", "loss plan without", "loss plan with 1 0", "loss plan with 0 0", "loss plan with -1", "loss plan with 0 with 1", "loss plan without 1 with 0",
                 "loss plan with 12without 3", "loss plan with 1  without 3", "loss plan with 0 without", "loss plan with - without 0", "loss plan with none 0", "loss plan 1", "loss plan keep 1", "loss plan 1234 1 without 0",
                 "loss plan without 0 without 1", "loss plan with without 1", "keep plan 0", "keep", "kinds plan plan", "kinds", "levels plan", "levels plan 0", "levels plan 21",
                 "levels plan 01", "levels plan -1", "levels plan 1 2", "levels plan " + "1" * 50, "drop plan " + "1" * 4001, "Undo plan", "undo Plan", "help", "plan undo",
                 "undo\nplan", "undo plan\n", "\nundo plan", "undo plan\nundo plan", "names\n", "quit", "tried plan", "run plan", "weights plan", "exact plan"]
        for line in wrong:
            with self.subTest(line=line):
                self.raises(InvalidCommand, lambda: shell.run(line))
                self.raises(InvalidCommand, lambda: shell.run_all((line,)))
                self.assertEqual(shell.tried(line), "! InvalidCommand")
        # What is no command is refused ahead of names that are not there.
        for line in ("undo gone 1", "row gone 1 @", "new plan sums b a", "levels gone 21"):
            self.raises(InvalidCommand, lambda: shell.run(line))
        self.refuses(InvalidCommand, shell.run, ["names"], more=["names", ["names"], ("names",), b"names"])
        self.assertEqual(state(shell), held)

    def test_errors_in_their_order(self):
        shell = both()
        held = state(shell)
        for line, error, kept in (
                ("undo gone", UnknownName, {"name": "gone"}), ("copy gone plan", UnknownName, {"name": "gone"}), ("forget gone", UnknownName, {"name": "gone"}),
                ("row gone 1 1 5 @ 1/2", UnknownName, {"name": "gone"}), ("levels gone 3", UnknownName, {"name": "gone"}), ("loss gone with 9", UnknownName, {"name": "gone"}),
                ("new plan sums a", InvalidOperation, {}), ("new fresh sums -", InvalidOperation, {}), ("new plan sums -", InvalidOperation, {}),
                ("copy plan plan", InvalidOperation, {}), ("copy plan stock", InvalidOperation, {}), ("redo plan", NothingToUndo, {"many": 1}),
                ("row plan 1 1 5 @ 1/2", InvalidEdit, {}), ("row plan 1 1 5 @ 3:2", InvalidEdit, {}), ("row plan 1 1 5 @ 0", InvalidEdit, {}),
                ("row plan 1 1 5 @ -3", InvalidEdit, {}), ("row plan 1 1", InvalidEdit, {}), ("row plan -", InvalidEdit, {}), ("row plan - @ 3", InvalidEdit, {}),
                ("row plan 1 1 @ 1/2", InvalidEdit, {}), ("drop plan 4", InvalidEdit, {}), ("drop plan 200", InvalidEdit, {}), ("weight plan 4 3", InvalidEdit, {}),
                ("weight plan 0 0", InvalidEdit, {}), ("weight plan 0 1/0", InvalidEdit, {}), ("weight plan 9 2:1", InvalidEdit, {}), ("rule plan day -> hour", InvalidEdit, {}),
                ("rule plan talk -> hour room", InvalidEdit, {}), ("unrule plan hour -> room", InvalidEdit, {}), ("loss plan with 4", InvalidOperation, {}),
                ("loss plan with 0 1 without 4", InvalidOperation, {}), ("loss plan without 200", InvalidOperation, {})):
            with self.subTest(line=line):
                self.raises(error, lambda: shell.run(line), **kept)
                self.assertEqual(shell.tried(line), "! " + error.__name__)
        self.assertEqual(state(shell), held)
        new = shell_of("new p sums a")
        self.raises(NothingToUndo, lambda: new.run("undo p"), many=1)
        self.raises(InvalidEdit, lambda: shell_of("new p odds a").run("row p 1 @ 1:1"))

    def test_twenty_tables(self):
        letters = "abcdefghijklmnopqrst"
        shell = shell_of(*[f"new {name} sums x" for name in letters])
        self.assertEqual([len(shell), str(shell), shell.run("names")], [20, "shell with 20 tables", " ".join(letters)])
        for line, error, kept in (("new u sums x", TooMany, {"limit": 20}), ("copy a u", TooMany, {"limit": 20}), ("new u sums -", InvalidOperation, {}),
                                  ("copy a b", InvalidOperation, {}), ("new a sums x", InvalidOperation, {}), ("copy u v", UnknownName, {"name": "u"})):
            self.raises(error, lambda: shell.run(line), **kept)
            self.assertEqual(shell.tried(line), "! " + error.__name__)
        self.assertEqual([shell.run("forget c"), shell.run("copy a u"), shell.tried("new c sums x"), len(shell.log)], ["ok", "ok", "! TooMany", 22])

    def test_many_conflicts(self):
        shell = shell_of("new p sums x", "rule p - -> x", *[f"row p {at}" for at in range(63)])
        self.assertEqual(shell.run("bound p"), "63")
        shell.run_all(("row p 63", "row p 64"))
        self.raises(TooMany, lambda: shell.run("bound p"), limit=2000)
        self.assertEqual([shell.tried("bound p"), shell.run("loss p"), shell.run("levels p 2")], ["! TooMany", "64", "64 * 65, 65 * 1"])

    def test_two_hundred_rows(self):
        shell = shell_of("new p odds x", *["row p 1"] * 200)
        self.raises(InvalidEdit, lambda: shell.run("row p 1"))
        self.assertEqual([len(shell["p"]), shell.run("drop p 199"), len(shell.run("kinds p").split())], [200, "1:1 -> 1:1", 199])

    def test_names_like_words_of_commands(self):
        shell = shell_of("new with sums none without", "row with 1 2 @ 3", "row with 1 3", "rule with none -> without", "copy with names", "copy names sums")
        self.assertEqual(shell.run_all(("loss with with 1", "loss with without none", "names", "rules with", "keep sums", "loss names without 0")),
                         ("3", "1", "names sums with", "columns none without\nnone -> without", "0", "3"))


class LogTest(Case):

    def test_logs(self):
        shell = both()
        self.assertEqual(shell.log, PLAN_LINES + STOCK_LINES)
        for line in ASKING:
            shell.run(line)
        for line in ("undo gone", "row plan 1", "drop plan 9", "redo plan", "loss plan with 9", "nothing"):
            self.assertTrue(shell.tried(line).startswith("! "))
        self.assertEqual(shell.log, PLAN_LINES + STOCK_LINES)
        more = ("undo plan", "undo plan", "copy plan other", "redo other", "weight other 0 7", "redo plan", "forget stock", "new stock odds z", "row stock 5 @ 3:1")
        shell.run_all(more)
        self.assertEqual(shell.log, PLAN_LINES + STOCK_LINES + more)
        again = Shell.of_log(shell.log)
        self.assertEqual([again == shell, again.log, state(again)], [True, shell.log, state(shell)])
        self.assertEqual(Shell.of_log(()), Shell())
        # Lines that only ask can be run, too.
        self.assertEqual(Shell.of_log(PLAN_LINES + ("names", "loss plan")).log, PLAN_LINES)

    def test_run_all_stops_at_the_first_error(self):
        shell = Shell()
        lines = ("new p sums x", "row p 1", "drop p 7", "row p 2")
        self.raises(InvalidEdit, lambda: shell.run_all(lines))
        self.assertEqual([shell.log, len(shell["p"])], [lines[:2], 1])
        self.raises(InvalidCommand, lambda: shell.run_all(("row p 3", None, "row p 4")))
        self.assertEqual([len(shell["p"]), shell.run_all(())], [2, ()])
        self.raises(UnknownName, lambda: Shell.of_log(("new p sums x", "undo q")), name="q")
        for call in (shell.run_all, Shell.of_log):
            self.refuses(InvalidCommand, call, [()], more=[["names"], "names", {"names": 1}, ("names", ["names"]), None])
        self.assertEqual([len(shell["p"]), shell.log], [2, lines[:2] + ("row p 3",)])

    def test_tried(self):
        shell = Shell()
        self.assertEqual([shell.tried("new p sums x"), shell.tried("row p 4"), shell.tried("loss p"), shell.tried("keep p"), shell.tried("names")],
                         ["ok", "0 -> 0", "0", "0", "p"])
        for value in values():
            self.assertEqual(shell.tried(value), "! InvalidCommand")
        self.assertEqual(shell.log, ("new p sums x", "row p 4"))


class ValueTest(Case):

    def test_what_stands_under_a_name(self):
        shell = both()
        self.assertEqual((shell["plan"], shell["stock"]), (PLAN, STOCK))
        self.assertEqual((shell.branch_of("plan"), shell.branch_of("stock").rules), (Live(PLAN, TALKS), PLACES))
        for call in (lambda name: shell[name], shell.branch_of):
            for value in [*values(), "gone", "Plan", ["plan"], ("plan",), b"plan"]:
                self.raises(UnknownName, lambda: call(value), name=value)
        for value in [*values(), "gone", ["plan"], ("plan",)]:
            self.assertIs(value in shell, False)
        self.assertIs("plan" in shell, True)
        self.assertRaises(TypeError, lambda: list(shell))

    def test_branches_give_no_access(self):
        shell = both()
        held = state(shell)
        branch = shell.branch_of("plan")
        self.assertEqual(len(branch), 6)
        branch.apply(("drop", 0))
        branch.undo(3)
        self.assertEqual(state(shell), held)
        shell.run("copy plan other")
        shell.run("drop plan 0")
        self.assertEqual([len(shell["plan"]), len(shell["other"]), len(shell.branch_of("other"))], [3, 4, 6])
        shell.run("undo other")
        self.assertEqual([shell.run("redo other"), shell.tried("redo plan")], ["2 -> 4", "! NothingToUndo"])

    def test_equal_shells(self):
        shell = both()
        # The log does not count, and neither do groups.
        other = shell_of(*STOCK_LINES, *PLAN_LINES, "drop plan 0", "undo plan", "new x sums y", "forget x")
        self.assertEqual([shell == other, shell != other, shell.log == other.log], [True, False, False])
        for line in ("drop plan 0", "copy plan other", "forget stock", "weight plan 0 4", "unrule stock item -> place"):
            changed = both()
            changed.run(line)
            self.assertEqual([shell == changed, changed == shell, shell != changed], [False, False, True])
        renamed = shell_of(*[line.replace("plan", "plans") for line in PLAN_LINES], *STOCK_LINES)
        self.assertIs(shell == renamed, False)
        for value in values():
            self.assertIs(shell == value, False)
            self.assertIs(Shell() == value, exactly(value, []) or isinstance(value, Shell))

    def test_asking_changes_nothing(self):
        shell = both()
        held = state(shell)
        first = [shell.run(line) for line in ASKING]
        self.assertEqual([shell.run(line) for line in ASKING], first)
        self.assertEqual(state(shell), held)


if __name__ == "__main__":
    unittest.main()
